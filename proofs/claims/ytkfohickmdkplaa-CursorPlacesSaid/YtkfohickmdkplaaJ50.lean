/-
  The laws of the cursor: the program's answers to asks.
-/
import Derived.Test.YtkfohickmdkplaaJ45
namespace Go.Proofs.Ytkfohickmdkplaa
open Go.RowKit Go.Proofs.Leb Go.Proofs.Own Go.Proofs.Cur Go.Proofs.Span
set_option maxRecDepth 100000
set_option maxHeartbeats 40000000

theorem asked_any : AskedAny := by
  show ∀ (n : Nat) (l : List AskM) (v : Value) (Bk : Nat → Prop) (w : World) (C Bo : Nat) (vb : Value) (bs : List UInt8) (lim : Int) (p : Nat) (u : Value) (ds : List (List UInt8)), l.length < n → l.length ≤ 30 → RdA w Bk v l → (∀ k, Bk k → k < w.heap.size ∧ ¬ SS C Bo u k) → (∀ a ∈ l, WfA a) → (∀ a ∈ l, FineA a) → ds.length + 3 * l.length ≤ 1000 →     Sep C Bo vb bs u → Cur w C vb bs p lim 0 → Inv bs.length lim p → Outs w Bo u ds → Calls Try.prog 8 #[.pointer (some ⟨C, 0, none⟩), v, .pointer (some ⟨Bo, 0, none⟩)] w (AskP w C Bo vb bs lim u ds (allO bs l lim p))
  intro n
  induction n with
  | zero => exact fun l v Bk w C Bo vb bs lim p u ds h => absurd h (Nat.not_lt_zero _)
  | succ n ih =>
    intro l v Bk w C Bo vb bs lim p u0 ds hln hl30 hr hBk hwf hfine hds hsep h hi hout
    have IH := hid ih
    have HR := hid hr
    have HBK := hid hBk
    have HW := hid hwf
    have HF := hid hfine
    have HDS := hid hds
    have HSEP := hid hsep
    have hC := h.lt
    have hB := hout.cell.lt
    have HU0 := hid hout.lt
    have HVL : Hid (bs ≠ [] → ∀ k, vb.ownBlock = some k → k < w.heap.size) := fun hne => h.rd.there hne
    obtain ⟨O, hO⟩ : ∃ O, allO bs l lim p = O := ⟨_, rfl⟩
    have HOL : Hid (O.1.length ≤ 3 * l.length) := by show _ ≤ _; rw [← hO]; exact allO_len l lim p
    obtain ⟨⟨av, cv, rfl, hcv⟩, -⟩ := id hr
    have HCAP := hid hcv
    obtain ⟨w3, hw3⟩ : ∃ w3, ((w.alloc (.cells #[.pointer (some ⟨C, 0, none⟩)] 29)).alloc (.cells #[.slice av l.length cv] 23)).alloc (.cells #[.pointer (some ⟨Bo, 0, none⟩)] 31) = w3 := ⟨_, rfl⟩
    have hn3 : New w w3 := by rw [← hw3]; exact (((Upd.refl _ _).alloc _).alloc _).alloc _
    have hs3 : w3.heap.size = w.heap.size + 1 + 1 + 1 := by rw [← hw3]; simp
    have K3 : Hid (One1 w3 w.heap.size (.pointer (some ⟨C, 0, none⟩))) := by show One1 _ _ _; rw [← hw3]; exact ((One1.mk rfl).push _).push _
    have K4 : Hid (One1 w3 (w.heap.size + 1) (.slice av l.length cv)) := by show One1 _ _ _; rw [← hw3]; exact (One1.mk (by simp)).push _
    have K5 : Hid (One1 w3 (w.heap.size + 1 + 1) (.pointer (some ⟨Bo, 0, none⟩))) := by show One1 _ _ _; rw [← hw3]; exact One1.mk (by simp)
    have hn4 : New w3 (w3.alloc (.cells #[.int .i64 0] 3)) := (Upd.refl _ _).alloc _
    have I0 : Hid (AskI w3 C Bo vb bs lim u0 ds l O 0 (w.heap.size + 1 + 1 + 1) u0 [] p (w3.alloc (.cells #[.int .i64 0] 3))) :=
      ⟨New.upd hn4, by rw [List.append_nil]; exact (hout.new hn3).new hn4, Grown.refl _ _, (h.new hn3).new hn4, hi, One1.mk hs3.symm, by omega, (fun e => by have := hout.lt _ e; omega), rfl, by rw [List.drop_zero, hO]; rfl, by rw [List.drop_zero, hO]⟩
    have HN3 := hid hn3
    have HGR := hid (fun u (hg : Grown w3 u0 u) k h1 h2 => box_ns (k := k) hC hB hout.lt hg h1 h2)
    have hBB := hout.cell.lt
    rw [hO]
    clear ih hr hBk hwf hfine hds hsep h hi hout hO hcv hn3 hn4
    go_enter Try.func8, Try.ntmps8
    go_wp2_with fail
    go_loopg [6] l.length (fun k b wr => ∃ (i Bi : Nat) (u : Value) (pre : List (List UInt8)) (q : Nat), k = l.length - i ∧ b = .pointer (some ⟨Bi, 0, none⟩) ∧ i ≤ l.length ∧ AskI w3 C Bo vb bs lim u0 ds l O i Bi u pre q wr)
    case atStart =>
      skip
      exact ⟨0, _, u0, [], p, rfl, rfl, Nat.zero_le _, I0.out⟩
    case round =>
      clear hw3
      obtain ⟨i, Bi, u, pre, q, rfl, rfl, hil, hinv⟩ := hrel
      have IR := hid hinv
      have hbi0 := hinv.bi.lt
      have hbn := hinv.bn
      have HNS : Hid (∀ k, w.heap.size ≤ k → k < w3.heap.size → ¬ SS C Bo u k) := HGR.out u hinv.gr
      have HNS0 : Hid (∀ k, w.heap.size ≤ k → k < w3.heap.size → ¬ SS C Bo u0 k) := HGR.out u0 (Grown.refl _ _)
      have HSU := hid (HSEP.out.grow hinv.gr (Nat.lt_of_lt_of_le hC HN3.out.size) (fun hne k hk => Nat.lt_of_lt_of_le (HVL.out hne k hk) HN3.out.size))
      have hK3 := K3.out.upd hinv.up (HNS0.out _ (Nat.le_refl _) (by omega))
      have hK4 := K4.out.upd hinv.up (HNS0.out _ (by omega) (by omega))
      have hK5 := K5.out.upd hinv.up (HNS0.out _ (by omega) (by omega))
      have HK3 := hid hK3
      have HK4 := hid hK4
      have HK5 := hid hK5
      have e4 := hK4.c
      have e6 := hinv.bi.c
      clear hinv I0 hK3 hK4 hK5
      by_cases hlt : i < l.length
      · have hne : l ≠ [] := by intro e; subst e; simp at hlt
        have HNE0 := hid hne
        obtain ⟨_, _, e, hat⟩ := (HR.out.2 hne).at
        clear hne
        obtain ⟨b, o, row, rfl, hlen, ⟨pv, rfl, hpk, hpo⟩, hc⟩ := hat i hlt
        cases e
        obtain ⟨pa, pc, rfl⟩ := hpk.shape
        have HRT : Hid (∃ t, l.drop i = l[i] :: t ∧ t = l.drop (i + 1)) := ⟨_, List.drop_eq_getElem_cons hlt, rfl⟩
        have HWF := hid (HW.out l[i] (List.getElem_mem _))
        have HFA := hid (HF.out l[i] (List.getElem_mem _))
        obtain ⟨a, ha⟩ : ∃ a, l[i] = a := ⟨_, rfl⟩
        rw [ha] at hc hpk hpo HWF HFA HRT
        have HBb := HBK.out b ((HR.out.2 HNE0.out).own b rfl)
        have HPB := hid (fun hne k hk => HBK.out k (hpo hne k hk))
        have U0 : Hid (Upd (SS C Bo u0) w wr) := (New.upd HN3.out).trans IR.out.up (fun _ _ h => h)
        have HC0 : Hid (∀ j ux, (rowA a (.slice pa a.x.picks.length pc))[j]? = some ux → wr.cell? ⟨b, o + i * 14 + j, none⟩ = some ux) := fun j ux hj => U0.out.cell (hc j ux (by simpa using hj)) HBb.2
        have HP : Hid (RdK w (.slice pa a.x.picks.length pc) a.x.picks) := hpk
        have HZ : Hid ((wr.alloc (.cells #[.int .u8 0, .int .i64 0, .int .u8 0, .int .u8 0, .int .i64 0, .int .u64 0, .int .u64 0, .int .i64 0, .int .i64 0, .int .i64 0, .int .i64 0, .int .i64 0, .int .i64 0, .slice none 0 0] 49)).heap[wr.heap.size]? = some (.cells #[.int .u8 0, .int .i64 0, .int .u8 0, .int .u8 0, .int .i64 0, .int .u64 0, .int .u64 0, .int .i64 0, .int .i64 0, .int .i64 0, .int .i64 0, .int .i64 0, .int .i64 0, .slice none 0 0] 49)) := hp_new rfl
        obtain ⟨d, hd⟩ : ∃ d : Nat, a.doo % 6 = d := ⟨_, rfl⟩
        have ed : (a.doo : Int).tmod 6 = (d : Int) := by rw [Int.tmod_eq_emod_of_nonneg (Int.natCast_nonneg _)]; omega
        have HD := hid hd
        have hd6 : d < 6 := by omega
        clear ha hat hc hlen hpk hpo hd HBb
        go_upto_region 4 with fail
        refine wp_region_lit ?_
        refine wpList_plain rfl fun K hK => ?_
        unfold Oper.wp
        go_simp
        refine hK _ _ ?_
        clear hK
        clear K
        refine wpList_plain rfl fun K hK => ?_
        unfold Oper.wp
        go_simp
        refine hK _ _ ?_
        clear hK
        clear K
        refine wpList_plain rfl fun K hK => ?_
        unfold Oper.wp
        go_simp
        refine hK _ _ ?_
        clear hK
        clear K
        refine wpList_load_at rfl 49 _ rfl b (o + i * 14) rfl (rowA a (.slice pa a.x.picks.length pc)) _ HC0.out Try.underlying49 rfl infoA ?_
        refine wpList_plain rfl fun K hK => ?_
        unfold Oper.wp
        go_simp
        refine hK _ _ ?_
        clear hK
        clear K
        refine wpList_store_row rfl 49 _ _ rfl wr.heap.size (rowA a (.slice pa a.x.picks.length pc)) rfl rfl 49 _ HZ.out infoA rfl (by simp [rowA, valW, Value.oneCell']) ?_
        refine wpList_nil ?_
        obtain ⟨hus, hbs⟩ := run_setRowT (cs := rowA a (.slice pa a.x.picks.length pc)) HZ.out
        have hn : New wr ((wr.alloc (.cells #[.int .u8 0, .int .i64 0, .int .u8 0, .int .u8 0, .int .i64 0, .int .u64 0, .int .u64 0, .int .i64 0, .int .i64 0, .int .i64 0, .int .i64 0, .int .i64 0, .int .i64 0, .slice none 0 0] 49)).setRow wr.heap.size (rowA a (.slice pa a.x.picks.length pc))) := Upd.trans (S := fun _ => False) ((Upd.refl _ _).alloc _) hus (fun k hk e => by omega)
        generalize (wr.alloc (.cells #[.int .u8 0, .int .i64 0, .int .u8 0, .int .u8 0, .int .i64 0, .int .u64 0, .int .u64 0, .int .i64 0, .int .i64 0, .int .i64 0, .int .i64 0, .int .i64 0, .int .i64 0, .slice none 0 0] 49)).setRow wr.heap.size (rowA a (.slice pa a.x.picks.length pc)) = w4 at *
        have HN4 := hid hn
        have hwl : wr.heap.size < w4.heap.size := (Array.getElem?_eq_some_iff.1 hbs).1
        have HXS : Hid (¬ SS C Bo u wr.heap.size) := by
          rintro (e | e | e)
          · have := IR.out.cur.lt; omega
          · have := IR.out.out.cell.lt; omega
          · have := IR.out.out.lt _ e; omega
        have HXB := hid hbs
        have CELL : Hid (∀ W, Upd (SS C Bo u) w4 W → ∀ j ux, (rowA a (.slice pa a.x.picks.length pc))[j]? = some ux → W.cell? ⟨wr.heap.size, j, none⟩ = some ux) := fun W hW j ux hj => by
          rw [cell_of_row _ wr.heap.size j _ _ (0, 0) ((hW.block _ (Array.getElem?_eq_some_iff.1 HXB.out).1 HXS.out).trans HXB.out)]; exact hj
        have E3 : Hid (∀ W, Upd (SS C Bo u) w4 W → W.cell? ⟨w.heap.size, 0, none⟩ = some (.pointer (some ⟨C, 0, none⟩))) := fun W hW => ((HK3.out.new HN4.out).upd hW (HNS.out _ (Nat.le_refl _) (by omega))).c
        have E4 : Hid (∀ W, Upd (SS C Bo u) w4 W → W.cell? ⟨w.heap.size + 1, 0, none⟩ = some (.slice (some ⟨b, o, none⟩) l.length cv)) := fun W hW => ((HK4.out.new HN4.out).upd hW (HNS.out _ (by omega) (by omega))).c
        have E5 : Hid (∀ W, Upd (SS C Bo u) w4 W → W.cell? ⟨w.heap.size + 1 + 1, 0, none⟩ = some (.pointer (some ⟨Bo, 0, none⟩))) := fun W hW => ((HK5.out.new HN4.out).upd hW (HNS.out _ (by omega) (by omega))).c
        have HBI : Hid (¬ SS C Bo u Bi) := by
          rintro (e | e | e)
          · omega
          · omega
          · exact IR.out.ui e
        have HT := hid (IR.out.out.new HN4.out)
        have HQ := hid (IR.out.cur.new HN4.out)
        have HIQ := hid IR.out.inv
        have HPL : Hid ((ds ++ pre).length + 3 * (l.length - i) ≤ 1000 ∧ (ds ++ pre).length ≤ 1000) := by
          have h1 := IR.out.pl
          have h3 := HDS.out
          show _ ∧ _
          rw [List.length_append]
          omega
        have hmf : ∀ (fn : Fn) (first cap : Array Value) (w : World), (Instr.makeFunc fn first cap).run Try.prog w = .ok (.func fn first cap) w := fun _ _ _ _ => rfl
        have e0 : w4.cell? ⟨wr.heap.size, 0, none⟩ = some (.int .u8 a.doo) := CELL.out _ (Upd.refl _ _) 0 _ rfl
        clear hus hbs hn e4 e6
        go_upto_block 2 with fail
        go_cut [33] (fun _ wx => ∃ s q' u', AskJ w4 C Bo vb bs lim u (ds ++ pre) a q s q' u' wx)
        case first =>
          have e3 := E3.out _ (Upd.refl _ _)
          obtain rfl | rfl | rfl | rfl | rfl | rfl : d = 0 ∨ d = 1 ∨ d = 2 ∨ d = 3 ∨ d = 4 ∨ d = 5 := by omega
          · skip
            have HCL : Hid (∀ W, New w4 W → Calls Try.prog 17 #[.pointer (some ⟨C, 0, none⟩), .func (.func 18) #[] #[.pointer (some ⟨wr.heap.size, 0, none⟩), .pointer (some ⟨w.heap.size, 0, none⟩)]] W (Got C vb bs lim cb (byteO bs lim a.byte q) W)) := fun W hW =>
              Byte_any (HQ.out.new hW) HIQ.out 18 #[.pointer (some ⟨wr.heap.size, 0, none⟩), .pointer (some ⟨w.heap.size, 0, none⟩)] (fun _ _ => rfl) a.byte
                (fun hp w1 hu hc r0 r1 => asked1_any bs[q] a.lo a.hi wr.heap.size w.heap.size C vb bs (q + 1) lim w1 (CELL.out _ ((New.upd hW).trans hu (fun k _ h => .inl h)) 2 _ rfl) (CELL.out _ ((New.upd hW).trans hu (fun k _ h => .inl h)) 3 _ rfl) (E3.out _ ((New.upd hW).trans hu (fun k _ h => .inl h))) hc ⟨hp, HIQ.out.len, inv_lim HIQ.out r0⟩)
            obtain ⟨x, hx⟩ : ∃ x, byteO bs lim a.byte q = x := ⟨_, rfl⟩
            have HAO : Hid (askO bs lim a q = x.bind fun ds q => .ok ([ds]) q) := by
              show _ = _
              unfold askO
              rw [HD.out, if_pos rfl]
              rw [hx]
            rw [hx] at HCL
            go_wp2_with fail
            cases x with
            | up q' er =>
              have HGONE : Hid (∀ wd, New w4 wd → ∀ wa, Upd (· = C) wd wa → Cur wa C vb bs q' lim er → Did C vb bs lim O.2 wa (.panicked [{ v := gave C, recovered := false }]) ∧ Upd (SS C Bo u0) w wa ∧ ∃ u', Outs wa Bo u' (ds ++ O.1) ∧ Grown w u0 u') := by
                intro wd hnd wa hua hca
                obtain ⟨t, ht, -⟩ := HRT.out
                have h1 := IR.out.ho1
                have h2 := IR.out.ho2
                rw [ht, allO_up (by rw [HD.out]; decide) HAO.out] at h1 h2
                have hup : Upd (SS C Bo u) w4 wa := (New.upd hnd).trans hua (fun k _ h => Or.inl h)
                refine ⟨?_, ?_, u, ?_, (Grown.refl _ _).trans HN3.out.size IR.out.gr⟩
                · rw [h2]; exact ⟨rfl, hca⟩
                · exact ss_grow (U0.out.thenNew HN4.out) ((Grown.refl _ _).trans HN3.out.size IR.out.gr) hup
                · rw [h1, List.append_nil]; exact (HT.out.new hnd).upd hua (fun k hk e => HSU.out.co (by rw [← e]; exact hk))
              clear hx
              have hnn : New w4 w4.drew := (Upd.refl _ _).drew
              have hn : Upd (SS C Bo u) w4 w4.drew := (Upd.refl _ _).drew
              have hsz : w4.heap.size ≤ w4.drew.heap.size := Nat.le_refl _
              have ht := HT.out.new hnn
              refine wp_region_held_drew (S := (Upd (SS C Bo u) w4)) (by kernel_rfl) (by first | exact hn | exact (Upd.refl _ _).drew | exact Upd.drew (by assumption)) (fun hn => ?_)
              generalize w4.drew = wd at *
              refine wpAnyH_take (i := 0) (oi := { dst := some 23, op := Op.load 31 (Operand.tmp 5), type := 31, pos := "law.go:70", after := #[], guard := none }) (v := ?v31x1) rfl (by kernel_rfl) (by kernel_rfl) (by kernel_rfl) (fun _ _ _ h => h) (Or.inl ⟨by rfl, ?y31x1⟩) hn ?r31x1
              case y31x1 => (intro wS hS; have c := E5.out _ hS; (try go_simp); (try with_reducible rfl))
              try simp only [Act.put, List.setIfInBounds_toArray, List.set_cons_zero, List.set_cons_succ]
              refine wpAnyH_take (i := 1) (oi := { dst := some 24, op := Op.load 31 (Operand.tmp 5), type := 31, pos := "law.go:70", after := #[], guard := none }) (v := ?v31x2) rfl (by kernel_rfl) (by kernel_rfl) (by kernel_rfl) (fun _ _ _ h => h) (Or.inl ⟨by rfl, ?y31x2⟩) hn ?r31x2
              case y31x2 => (intro wS hS; have c := E5.out _ hS; (try go_simp); (try with_reducible rfl))
              try simp only [Act.put, List.setIfInBounds_toArray, List.set_cons_zero, List.set_cons_succ]
              refine wpAnyH_take (i := 2) (oi := { dst := some 25, op := Op.nilCheck (Operand.tmp 24), type := 0, pos := "law.go:70", after := #[{ on := 1, ground := Ground.data }], guard := none }) (v := ?v31x3) rfl (by kernel_rfl) (by kernel_rfl) (by kernel_rfl) (fun _ _ _ h => h) (Or.inl ⟨by rfl, ?y31x3⟩) hn ?r31x3
              case y31x3 => (intro wS hS; (try go_simp); (try with_reducible rfl))
              try simp only [Act.put, List.setIfInBounds_toArray, List.set_cons_zero, List.set_cons_succ]
              refine wpAnyH_take (i := 4) (oi := { dst := some 27, op := Op.load 29 (Operand.tmp 3), type := 29, pos := "law.go:70", after := #[], guard := none }) (v := ?v31x4) rfl (by kernel_rfl) (by kernel_rfl) (by kernel_rfl) (fun _ _ _ h => h) (Or.inl ⟨by rfl, ?y31x4⟩) hn ?r31x4
              case y31x4 => (intro wS hS; have c := E3.out _ hS; (try go_simp); (try with_reducible rfl))
              try simp only [Act.put, List.setIfInBounds_toArray, List.set_cons_zero, List.set_cons_succ]
              refine wpAnyH_take (i := 5) (oi := { dst := some 28, op := Op.makeFunc (Fn.func 18) #[] #[Operand.tmp 7, Operand.tmp 3], type := 60, pos := "law.go:70", after := #[], guard := none }) (v := ?v31x5) rfl (by kernel_rfl) (by kernel_rfl) (by kernel_rfl) (fun _ _ _ h => h) (Or.inl ⟨by rfl, ?y31x5⟩) hn ?r31x5
              case y31x5 => (intro wS hS; (try go_simp); (try with_reducible rfl))
              try simp only [Act.put, List.setIfInBounds_toArray, List.set_cons_zero, List.set_cons_succ]
              refine wpAnyH_ready (rs := [3, 6]) (by kernel_rfl) (by simp) ?_
              refine AllReadyH.cons (o := { dst := some 26, op := Op.load 25 (Operand.tmp 25), type := 25, pos := "law.go:70", after := #[{ on := 2, ground := Ground.data }], guard := none }) rfl (fun K hK => ?_) ?_
              · skip
                have c := ht.cell.c
                go_simp
                refine hK.out _ _ (by first | exact hn | exact Upd.alloc hn _) (fun hn => ?_)
                clear hK K
                try simp only [Act.put, List.setIfInBounds_toArray, List.set_cons_zero, List.set_cons_succ]
                refine wpAnyH_ready (rs := [6]) (by kernel_rfl) (by simp) ?_
                refine AllReadyH.cons (o := { dst := some 29, op := Op.call { callee := Callee.value (Operand.func 17), args := #[Operand.tmp 27, Operand.tmp 28], argTypes := #[29, 60] }, type := 5, pos := "law.go:70", after := #[{ on := 4, ground := Ground.data }, { on := 5, ground := Ground.data }], guard := none }) rfl (fun K hK => ?_) AllReadyH.nil
                go_simp
                refine (HCL.out _ hnn).mono ?_
                rintro e wa ⟨hua, rfl, hca⟩
                go_wp2_with fail
                have hg := HGONE.out _ hnn wa hua hca
                exact ⟨rfl, hg.2.1, hg.1, hg.2.2⟩
              refine AllReadyH.cons (o := { dst := some 29, op := Op.call { callee := Callee.value (Operand.func 17), args := #[Operand.tmp 27, Operand.tmp 28], argTypes := #[29, 60] }, type := 5, pos := "law.go:70", after := #[{ on := 4, ground := Ground.data }, { on := 5, ground := Ground.data }], guard := none }) rfl (fun K hK => ?_) AllReadyH.nil
              go_simp
              refine (HCL.out _ hnn).mono ?_
              rintro e wa ⟨hua, rfl, hca⟩
              go_wp2_with fail
              have hg := HGONE.out _ hnn wa hua hca
              exact ⟨rfl, hg.2.1, hg.1, hg.2.2⟩
            | ok ds1 q' =>
              clear hx
              have hnn : New w4 w4.drew := (Upd.refl _ _).drew
              have hn : Upd (SS C Bo u) w4 w4.drew := (Upd.refl _ _).drew
              have hsz : w4.heap.size ≤ w4.drew.heap.size := Nat.le_refl _
              have ht := HT.out.new hnn
              refine wp_region_held_drew (S := (Upd (SS C Bo u) w4)) (by kernel_rfl) (by first | exact hn | exact (Upd.refl _ _).drew | exact Upd.drew (by assumption)) (fun hn => ?_)
              generalize w4.drew = wd at *
              refine wpAnyH_take (i := 0) (oi := { dst := some 23, op := Op.load 31 (Operand.tmp 5), type := 31, pos := "law.go:70", after := #[], guard := none }) (v := ?v32x1) rfl (by kernel_rfl) (by kernel_rfl) (by kernel_rfl) (fun _ _ _ h => h) (Or.inl ⟨by rfl, ?y32x1⟩) hn ?r32x1
              case y32x1 => (intro wS hS; have c := E5.out _ hS; (try go_simp); (try with_reducible rfl))
              try simp only [Act.put, List.setIfInBounds_toArray, List.set_cons_zero, List.set_cons_succ]
              refine wpAnyH_take (i := 1) (oi := { dst := some 24, op := Op.load 31 (Operand.tmp 5), type := 31, pos := "law.go:70", after := #[], guard := none }) (v := ?v32x2) rfl (by kernel_rfl) (by kernel_rfl) (by kernel_rfl) (fun _ _ _ h => h) (Or.inl ⟨by rfl, ?y32x2⟩) hn ?r32x2
              case y32x2 => (intro wS hS; have c := E5.out _ hS; (try go_simp); (try with_reducible rfl))
              try simp only [Act.put, List.setIfInBounds_toArray, List.set_cons_zero, List.set_cons_succ]
              refine wpAnyH_take (i := 2) (oi := { dst := some 25, op := Op.nilCheck (Operand.tmp 24), type := 0, pos := "law.go:70", after := #[{ on := 1, ground := Ground.data }], guard := none }) (v := ?v32x3) rfl (by kernel_rfl) (by kernel_rfl) (by kernel_rfl) (fun _ _ _ h => h) (Or.inl ⟨by rfl, ?y32x3⟩) hn ?r32x3
              case y32x3 => (intro wS hS; (try go_simp); (try with_reducible rfl))
              try simp only [Act.put, List.setIfInBounds_toArray, List.set_cons_zero, List.set_cons_succ]
              refine wpAnyH_take (i := 4) (oi := { dst := some 27, op := Op.load 29 (Operand.tmp 3), type := 29, pos := "law.go:70", after := #[], guard := none }) (v := ?v32x4) rfl (by kernel_rfl) (by kernel_rfl) (by kernel_rfl) (fun _ _ _ h => h) (Or.inl ⟨by rfl, ?y32x4⟩) hn ?r32x4
              case y32x4 => (intro wS hS; have c := E3.out _ hS; (try go_simp); (try with_reducible rfl))
              try simp only [Act.put, List.setIfInBounds_toArray, List.set_cons_zero, List.set_cons_succ]
              refine wpAnyH_take (i := 5) (oi := { dst := some 28, op := Op.makeFunc (Fn.func 18) #[] #[Operand.tmp 7, Operand.tmp 3], type := 60, pos := "law.go:70", after := #[], guard := none }) (v := ?v32x5) rfl (by kernel_rfl) (by kernel_rfl) (by kernel_rfl) (fun _ _ _ h => h) (Or.inl ⟨by rfl, ?y32x5⟩) hn ?r32x5
              case y32x5 => (intro wS hS; (try go_simp); (try with_reducible rfl))
              try simp only [Act.put, List.setIfInBounds_toArray, List.set_cons_zero, List.set_cons_succ]
              refine wpAnyH_ready (rs := [3, 6]) (by kernel_rfl) (by simp) ?_
              refine AllReadyH.cons (o := { dst := some 26, op := Op.load 25 (Operand.tmp 25), type := 25, pos := "law.go:70", after := #[{ on := 2, ground := Ground.data }], guard := none }) rfl (fun K hK => ?_) ?_
              · skip
                have c := ht.cell.c
                go_simp
                refine hK.out _ _ (by first | exact hn | exact Upd.alloc hn _) (fun hn => ?_)
                clear hK K
                try simp only [Act.put, List.setIfInBounds_toArray, List.set_cons_zero, List.set_cons_succ]
                refine wpAnyH_ready (rs := [6]) (by kernel_rfl) (by simp) ?_
                refine AllReadyH.cons (o := { dst := some 29, op := Op.call { callee := Callee.value (Operand.func 17), args := #[Operand.tmp 27, Operand.tmp 28], argTypes := #[29, 60] }, type := 5, pos := "law.go:70", after := #[{ on := 4, ground := Ground.data }, { on := 5, ground := Ground.data }], guard := none }) rfl (fun K hK => ?_) AllReadyH.nil
                go_simp
                refine (HCL.out _ hnn).mono ?_
                rintro e wa ⟨hua, rfl, hc⟩
                unfold cb
                go_wp2_with fail
                have ht := ht.upd hua (fun k hk e => HSU.out.co (by rw [← e]; exact hk))
                have hn := hn.trans hua (fun k _ h => Or.inl h)
                have hsz := Nat.le_trans hsz hua.size
                refine hK.out _ _ (by first | exact hn | exact Upd.alloc hn _) (fun hn => ?_)
                clear hK K
                try simp only [Act.put, List.setIfInBounds_toArray, List.set_cons_zero, List.set_cons_succ]
                refine wpAnyH_ready (rs := [7]) (by kernel_rfl) (by simp) ?_
                refine AllReadyH.cons (o := { dst := some 30, op := Op.buildSlice 22 1 #[(0, Operand.tmp 29)], type := 22, pos := "law.go:70", after := #[{ on := 6, ground := Ground.data }], guard := none }) rfl (fun K hK => ?_) AllReadyH.nil
                go_simp
                refine rowBStep ds1 ?_
                intro W4 hna hcv
                have ht := ht.new hna
                have hn := hn.thenNew hna
                have hc := hc.new hna
                have hsz := Nat.le_trans hsz hna.size
                refine hK.out _ _ (by first | exact hn | exact Upd.alloc hn _) (fun hn => ?_)
                clear hK K
                try simp only [Act.put, List.setIfInBounds_toArray, List.set_cons_zero, List.set_cons_succ]
                refine wpAnyH_ready (rs := [8]) (by kernel_rfl) (by simp) ?_
                refine AllReadyH.cons (o := { dst := some 31, op := Op.convert 22 9 (Operand.tmp 30), type := 9, pos := "law.go:70", after := #[{ on := 7, ground := Ground.data }], guard := none }) rfl (fun K hK => ?_) AllReadyH.nil
                go_simp
                refine hK.out _ _ (by first | exact hn | exact Upd.alloc hn _) (fun hn => ?_)
                clear hK K
                try simp only [Act.put, List.setIfInBounds_toArray, List.set_cons_zero, List.set_cons_succ]
                refine wpAnyH_ready (rs := [9]) (by kernel_rfl) (by simp) ?_
                refine AllReadyH.cons (o := { dst := some 32, op := Op.buildSlice 25 1 #[(0, Operand.tmp 31)], type := 25, pos := "law.go:70", after := #[{ on := 8, ground := Ground.data }], guard := none }) rfl (fun K hK => ?_) AllReadyH.nil
                go_simp
                refine rowTStep [[ds1]] ?_
                intro W5 hna hrt
                have ht := ht.new hna
                have hn := hn.thenNew hna
                have hc := hc.new hna
                have hsz := Nat.le_trans hsz hna.size
                refine hK.out _ _ (by first | exact hn | exact Upd.alloc hn _) (fun hn => ?_)
                clear hK K
                try simp only [Act.put, List.setIfInBounds_toArray, List.set_cons_zero, List.set_cons_succ]
                refine wpAnyH_ready (rs := [10]) (by kernel_rfl) (by simp) ?_
                refine AllReadyH.cons (o := { dst := some 33, op := Op.call { callee := Callee.builtin Builtin.append, args := #[Operand.tmp 26, Operand.tmp 32], argTypes := #[25, 25] }, type := 25, pos := "law.go:70", after := #[{ on := 3, ground := Ground.data }, { on := 9, ground := Ground.data }, { on := 6, ground := Ground.chain }], guard := none }) rfl (fun K hK => ?_) AllReadyH.nil
                refine stepT (.tmp 26) (.tmp 32) ht.txt hrt (by have := HPL.out.2; simp at this ⊢; omega) (by kernel_rfl) rfl rfl rfl ?_
                intro v8 wb htx haa
                obtain ⟨a8, n8, c8, rfl⟩ := htx.slice
                have hst := ht.stored haa htx
                have hn0 := hn
                have hbb := ht.cell.upd haa.upd ht.apart
                have hn := hn.trans haa.upd (fun k _ h => Or.inr (Or.inr h))
                refine hK.out _ _ (by first | exact hn | exact Upd.alloc hn _) (fun hn => ?_)
                clear hK K
                try simp only [Act.put, List.setIfInBounds_toArray, List.set_cons_zero, List.set_cons_succ]
                refine wpAnyH_take (i := 11) (oi := { dst := some 34, op := Op.nilCheck (Operand.tmp 23), type := 0, pos := "law.go:70", after := #[{ on := 0, ground := Ground.data }, { on := 0, ground := Ground.phase }, { on := 1, ground := Ground.phase }, { on := 2, ground := Ground.phase }, { on := 3, ground := Ground.phase }, { on := 4, ground := Ground.phase }, { on := 5, ground := Ground.phase }, { on := 6, ground := Ground.phase }, { on := 7, ground := Ground.phase }, { on := 8, ground := Ground.phase }, { on := 9, ground := Ground.phase }, { on := 10, ground := Ground.phase }], guard := none }) (v := ?v32x6) rfl (by kernel_rfl) (by kernel_rfl) (by kernel_rfl) (fun _ _ _ h => h) (Or.inl ⟨by rfl, ?y32x6⟩) hn ?r32x6
                case y32x6 => (intro wS hS; (try go_simp); (try with_reducible rfl))
                try simp only [Act.put, List.setIfInBounds_toArray, List.set_cons_zero, List.set_cons_succ]
                refine wpAnyH_ready (rs := [12]) (by kernel_rfl) (by simp) ?_
                refine AllReadyH.cons (o := { dst := none, op := Op.store 25 (Operand.tmp 34) (Operand.tmp 33), type := 0, pos := "law.go:70", after := #[{ on := 11, ground := Ground.data }, { on := 10, ground := Ground.data }, { on := 10, ground := Ground.chain }, { on := 0, ground := Ground.phase }, { on := 1, ground := Ground.phase }, { on := 2, ground := Ground.phase }, { on := 3, ground := Ground.phase }, { on := 4, ground := Ground.phase }, { on := 5, ground := Ground.phase }, { on := 6, ground := Ground.phase }, { on := 7, ground := Ground.phase }, { on := 8, ground := Ground.phase }, { on := 9, ground := Ground.phase }, { on := 10, ground := Ground.phase }], guard := none }) rfl (fun K hK => ?_) AllReadyH.nil
                have cb := hbb.c
                have fb := hbb.f
                go_simp
                have hn := hn0.trans hst.2.1 (fun k _ h => Or.inr h)
                refine hK.out _ _ (by first | exact hn | exact Upd.alloc hn _) (fun hn => ?_)
                clear hK K
                try simp only [Act.put, List.setIfInBounds_toArray, List.set_cons_zero, List.set_cons_succ]
                refine wpAnyH_done (by kernel_rfl) ?_ _
                go_wp2_with fail
                go_meet
                exact ⟨_, _, _, ⟨HAO.out, by rw [HD.out]; decide, hn, hst.1, (Grown.refl _ _).trans hsz hst.2.2, HSU.out.cur hc hst.2.1 (fun _ h => h)⟩⟩
              refine AllReadyH.cons (o := { dst := some 29, op := Op.call { callee := Callee.value (Operand.func 17), args := #[Operand.tmp 27, Operand.tmp 28], argTypes := #[29, 60] }, type := 5, pos := "law.go:70", after := #[{ on := 4, ground := Ground.data }, { on := 5, ground := Ground.data }], guard := none }) rfl (fun K hK => ?_) AllReadyH.nil
              go_simp
              refine (HCL.out _ hnn).mono ?_
              rintro e wa ⟨hua, rfl, hc⟩
              unfold cb
              go_wp2_with fail
              have ht := ht.upd hua (fun k hk e => HSU.out.co (by rw [← e]; exact hk))
              have hn := hn.trans hua (fun k _ h => Or.inl h)
              have hsz := Nat.le_trans hsz hua.size
              refine hK.out _ _ (by first | exact hn | exact Upd.alloc hn _) (fun hn => ?_)
              clear hK K
              try simp only [Act.put, List.setIfInBounds_toArray, List.set_cons_zero, List.set_cons_succ]
              refine wpAnyH_ready (rs := [3, 7]) (by kernel_rfl) (by simp) ?_
              refine AllReadyH.cons (o := { dst := some 26, op := Op.load 25 (Operand.tmp 25), type := 25, pos := "law.go:70", after := #[{ on := 2, ground := Ground.data }], guard := none }) rfl (fun K hK => ?_) ?_
              · skip
                have c := ht.cell.c
                go_simp
                refine hK.out _ _ (by first | exact hn | exact Upd.alloc hn _) (fun hn => ?_)
                clear hK K
                try simp only [Act.put, List.setIfInBounds_toArray, List.set_cons_zero, List.set_cons_succ]
                refine wpAnyH_ready (rs := [7]) (by kernel_rfl) (by simp) ?_
                refine AllReadyH.cons (o := { dst := some 30, op := Op.buildSlice 22 1 #[(0, Operand.tmp 29)], type := 22, pos := "law.go:70", after := #[{ on := 6, ground := Ground.data }], guard := none }) rfl (fun K hK => ?_) AllReadyH.nil
                go_simp
                refine rowBStep ds1 ?_
                intro W4 hna hcv
                have ht := ht.new hna
                have hn := hn.thenNew hna
                have hc := hc.new hna
                have hsz := Nat.le_trans hsz hna.size
                refine hK.out _ _ (by first | exact hn | exact Upd.alloc hn _) (fun hn => ?_)
                clear hK K
                try simp only [Act.put, List.setIfInBounds_toArray, List.set_cons_zero, List.set_cons_succ]
                refine wpAnyH_ready (rs := [8]) (by kernel_rfl) (by simp) ?_
                refine AllReadyH.cons (o := { dst := some 31, op := Op.convert 22 9 (Operand.tmp 30), type := 9, pos := "law.go:70", after := #[{ on := 7, ground := Ground.data }], guard := none }) rfl (fun K hK => ?_) AllReadyH.nil
                go_simp
                refine hK.out _ _ (by first | exact hn | exact Upd.alloc hn _) (fun hn => ?_)
                clear hK K
                try simp only [Act.put, List.setIfInBounds_toArray, List.set_cons_zero, List.set_cons_succ]
                refine wpAnyH_ready (rs := [9]) (by kernel_rfl) (by simp) ?_
                refine AllReadyH.cons (o := { dst := some 32, op := Op.buildSlice 25 1 #[(0, Operand.tmp 31)], type := 25, pos := "law.go:70", after := #[{ on := 8, ground := Ground.data }], guard := none }) rfl (fun K hK => ?_) AllReadyH.nil
                go_simp
                refine rowTStep [[ds1]] ?_
                intro W5 hna hrt
                have ht := ht.new hna
                have hn := hn.thenNew hna
                have hc := hc.new hna
                have hsz := Nat.le_trans hsz hna.size
                refine hK.out _ _ (by first | exact hn | exact Upd.alloc hn _) (fun hn => ?_)
                clear hK K
                try simp only [Act.put, List.setIfInBounds_toArray, List.set_cons_zero, List.set_cons_succ]
                refine wpAnyH_ready (rs := [10]) (by kernel_rfl) (by simp) ?_
                refine AllReadyH.cons (o := { dst := some 33, op := Op.call { callee := Callee.builtin Builtin.append, args := #[Operand.tmp 26, Operand.tmp 32], argTypes := #[25, 25] }, type := 25, pos := "law.go:70", after := #[{ on := 3, ground := Ground.data }, { on := 9, ground := Ground.data }, { on := 6, ground := Ground.chain }], guard := none }) rfl (fun K hK => ?_) AllReadyH.nil
                refine stepT (.tmp 26) (.tmp 32) ht.txt hrt (by have := HPL.out.2; simp at this ⊢; omega) (by kernel_rfl) rfl rfl rfl ?_
                intro v8 wb htx haa
                obtain ⟨a8, n8, c8, rfl⟩ := htx.slice
                have hst := ht.stored haa htx
                have hn0 := hn
                have hbb := ht.cell.upd haa.upd ht.apart
                have hn := hn.trans haa.upd (fun k _ h => Or.inr (Or.inr h))
                refine hK.out _ _ (by first | exact hn | exact Upd.alloc hn _) (fun hn => ?_)
                clear hK K
                try simp only [Act.put, List.setIfInBounds_toArray, List.set_cons_zero, List.set_cons_succ]
                refine wpAnyH_take (i := 11) (oi := { dst := some 34, op := Op.nilCheck (Operand.tmp 23), type := 0, pos := "law.go:70", after := #[{ on := 0, ground := Ground.data }, { on := 0, ground := Ground.phase }, { on := 1, ground := Ground.phase }, { on := 2, ground := Ground.phase }, { on := 3, ground := Ground.phase }, { on := 4, ground := Ground.phase }, { on := 5, ground := Ground.phase }, { on := 6, ground := Ground.phase }, { on := 7, ground := Ground.phase }, { on := 8, ground := Ground.phase }, { on := 9, ground := Ground.phase }, { on := 10, ground := Ground.phase }], guard := none }) (v := ?v32x7) rfl (by kernel_rfl) (by kernel_rfl) (by kernel_rfl) (fun _ _ _ h => h) (Or.inl ⟨by rfl, ?y32x7⟩) hn ?r32x7
                case y32x7 => (intro wS hS; (try go_simp); (try with_reducible rfl))
                try simp only [Act.put, List.setIfInBounds_toArray, List.set_cons_zero, List.set_cons_succ]
                refine wpAnyH_ready (rs := [12]) (by kernel_rfl) (by simp) ?_
                refine AllReadyH.cons (o := { dst := none, op := Op.store 25 (Operand.tmp 34) (Operand.tmp 33), type := 0, pos := "law.go:70", after := #[{ on := 11, ground := Ground.data }, { on := 10, ground := Ground.data }, { on := 10, ground := Ground.chain }, { on := 0, ground := Ground.phase }, { on := 1, ground := Ground.phase }, { on := 2, ground := Ground.phase }, { on := 3, ground := Ground.phase }, { on := 4, ground := Ground.phase }, { on := 5, ground := Ground.phase }, { on := 6, ground := Ground.phase }, { on := 7, ground := Ground.phase }, { on := 8, ground := Ground.phase }, { on := 9, ground := Ground.phase }, { on := 10, ground := Ground.phase }], guard := none }) rfl (fun K hK => ?_) AllReadyH.nil
                have cb := hbb.c
                have fb := hbb.f
                go_simp
                have hn := hn0.trans hst.2.1 (fun k _ h => Or.inr h)
                refine hK.out _ _ (by first | exact hn | exact Upd.alloc hn _) (fun hn => ?_)
                clear hK K
                try simp only [Act.put, List.setIfInBounds_toArray, List.set_cons_zero, List.set_cons_succ]
                refine wpAnyH_done (by kernel_rfl) ?_ _
                go_wp2_with fail
                go_meet
                exact ⟨_, _, _, ⟨HAO.out, by rw [HD.out]; decide, hn, hst.1, (Grown.refl _ _).trans hsz hst.2.2, HSU.out.cur hc hst.2.1 (fun _ h => h)⟩⟩
              refine AllReadyH.cons (o := { dst := some 30, op := Op.buildSlice 22 1 #[(0, Operand.tmp 29)], type := 22, pos := "law.go:70", after := #[{ on := 6, ground := Ground.data }], guard := none }) rfl (fun K hK => ?_) AllReadyH.nil
              go_simp
              refine rowBStep ds1 ?_
              intro W4 hna hcv
              have ht := ht.new hna
              have hn := hn.thenNew hna
              have hc := hc.new hna
              have hsz := Nat.le_trans hsz hna.size
              refine hK.out _ _ (by first | exact hn | exact Upd.alloc hn _) (fun hn => ?_)
              clear hK K
              try simp only [Act.put, List.setIfInBounds_toArray, List.set_cons_zero, List.set_cons_succ]
              refine wpAnyH_ready (rs := [3, 8]) (by kernel_rfl) (by simp) ?_
              refine AllReadyH.cons (o := { dst := some 26, op := Op.load 25 (Operand.tmp 25), type := 25, pos := "law.go:70", after := #[{ on := 2, ground := Ground.data }], guard := none }) rfl (fun K hK => ?_) ?_
              · skip
                have c := ht.cell.c
                go_simp
                refine hK.out _ _ (by first | exact hn | exact Upd.alloc hn _) (fun hn => ?_)
                clear hK K
                try simp only [Act.put, List.setIfInBounds_toArray, List.set_cons_zero, List.set_cons_succ]
                refine wpAnyH_ready (rs := [8]) (by kernel_rfl) (by simp) ?_
                refine AllReadyH.cons (o := { dst := some 31, op := Op.convert 22 9 (Operand.tmp 30), type := 9, pos := "law.go:70", after := #[{ on := 7, ground := Ground.data }], guard := none }) rfl (fun K hK => ?_) AllReadyH.nil
                go_simp
                refine hK.out _ _ (by first | exact hn | exact Upd.alloc hn _) (fun hn => ?_)
                clear hK K
                try simp only [Act.put, List.setIfInBounds_toArray, List.set_cons_zero, List.set_cons_succ]
                refine wpAnyH_ready (rs := [9]) (by kernel_rfl) (by simp) ?_
                refine AllReadyH.cons (o := { dst := some 32, op := Op.buildSlice 25 1 #[(0, Operand.tmp 31)], type := 25, pos := "law.go:70", after := #[{ on := 8, ground := Ground.data }], guard := none }) rfl (fun K hK => ?_) AllReadyH.nil
                go_simp
                refine rowTStep [[ds1]] ?_
                intro W5 hna hrt
                have ht := ht.new hna
                have hn := hn.thenNew hna
                have hc := hc.new hna
                have hsz := Nat.le_trans hsz hna.size
                refine hK.out _ _ (by first | exact hn | exact Upd.alloc hn _) (fun hn => ?_)
                clear hK K
                try simp only [Act.put, List.setIfInBounds_toArray, List.set_cons_zero, List.set_cons_succ]
                refine wpAnyH_ready (rs := [10]) (by kernel_rfl) (by simp) ?_
                refine AllReadyH.cons (o := { dst := some 33, op := Op.call { callee := Callee.builtin Builtin.append, args := #[Operand.tmp 26, Operand.tmp 32], argTypes := #[25, 25] }, type := 25, pos := "law.go:70", after := #[{ on := 3, ground := Ground.data }, { on := 9, ground := Ground.data }, { on := 6, ground := Ground.chain }], guard := none }) rfl (fun K hK => ?_) AllReadyH.nil
                refine stepT (.tmp 26) (.tmp 32) ht.txt hrt (by have := HPL.out.2; simp at this ⊢; omega) (by kernel_rfl) rfl rfl rfl ?_
                intro v8 wb htx haa
                obtain ⟨a8, n8, c8, rfl⟩ := htx.slice
                have hst := ht.stored haa htx
                have hn0 := hn
                have hbb := ht.cell.upd haa.upd ht.apart
                have hn := hn.trans haa.upd (fun k _ h => Or.inr (Or.inr h))
                refine hK.out _ _ (by first | exact hn | exact Upd.alloc hn _) (fun hn => ?_)
                clear hK K
                try simp only [Act.put, List.setIfInBounds_toArray, List.set_cons_zero, List.set_cons_succ]
                refine wpAnyH_take (i := 11) (oi := { dst := some 34, op := Op.nilCheck (Operand.tmp 23), type := 0, pos := "law.go:70", after := #[{ on := 0, ground := Ground.data }, { on := 0, ground := Ground.phase }, { on := 1, ground := Ground.phase }, { on := 2, ground := Ground.phase }, { on := 3, ground := Ground.phase }, { on := 4, ground := Ground.phase }, { on := 5, ground := Ground.phase }, { on := 6, ground := Ground.phase }, { on := 7, ground := Ground.phase }, { on := 8, ground := Ground.phase }, { on := 9, ground := Ground.phase }, { on := 10, ground := Ground.phase }], guard := none }) (v := ?v32x8) rfl (by kernel_rfl) (by kernel_rfl) (by kernel_rfl) (fun _ _ _ h => h) (Or.inl ⟨by rfl, ?y32x8⟩) hn ?r32x8
                case y32x8 => (intro wS hS; (try go_simp); (try with_reducible rfl))
                try simp only [Act.put, List.setIfInBounds_toArray, List.set_cons_zero, List.set_cons_succ]
                refine wpAnyH_ready (rs := [12]) (by kernel_rfl) (by simp) ?_
                refine AllReadyH.cons (o := { dst := none, op := Op.store 25 (Operand.tmp 34) (Operand.tmp 33), type := 0, pos := "law.go:70", after := #[{ on := 11, ground := Ground.data }, { on := 10, ground := Ground.data }, { on := 10, ground := Ground.chain }, { on := 0, ground := Ground.phase }, { on := 1, ground := Ground.phase }, { on := 2, ground := Ground.phase }, { on := 3, ground := Ground.phase }, { on := 4, ground := Ground.phase }, { on := 5, ground := Ground.phase }, { on := 6, ground := Ground.phase }, { on := 7, ground := Ground.phase }, { on := 8, ground := Ground.phase }, { on := 9, ground := Ground.phase }, { on := 10, ground := Ground.phase }], guard := none }) rfl (fun K hK => ?_) AllReadyH.nil
                have cb := hbb.c
                have fb := hbb.f
                go_simp
                have hn := hn0.trans hst.2.1 (fun k _ h => Or.inr h)
                refine hK.out _ _ (by first | exact hn | exact Upd.alloc hn _) (fun hn => ?_)
                clear hK K
                try simp only [Act.put, List.setIfInBounds_toArray, List.set_cons_zero, List.set_cons_succ]
                refine wpAnyH_done (by kernel_rfl) ?_ _
                go_wp2_with fail
                go_meet
                exact ⟨_, _, _, ⟨HAO.out, by rw [HD.out]; decide, hn, hst.1, (Grown.refl _ _).trans hsz hst.2.2, HSU.out.cur hc hst.2.1 (fun _ h => h)⟩⟩
              refine AllReadyH.cons (o := { dst := some 31, op := Op.convert 22 9 (Operand.tmp 30), type := 9, pos := "law.go:70", after := #[{ on := 7, ground := Ground.data }], guard := none }) rfl (fun K hK => ?_) AllReadyH.nil
              go_simp
              refine hK.out _ _ (by first | exact hn | exact Upd.alloc hn _) (fun hn => ?_)
              clear hK K
              try simp only [Act.put, List.setIfInBounds_toArray, List.set_cons_zero, List.set_cons_succ]
              refine wpAnyH_ready (rs := [3, 9]) (by kernel_rfl) (by simp) ?_
              refine AllReadyH.cons (o := { dst := some 26, op := Op.load 25 (Operand.tmp 25), type := 25, pos := "law.go:70", after := #[{ on := 2, ground := Ground.data }], guard := none }) rfl (fun K hK => ?_) ?_
              · skip
                have c := ht.cell.c
                go_simp
                refine hK.out _ _ (by first | exact hn | exact Upd.alloc hn _) (fun hn => ?_)
                clear hK K
                try simp only [Act.put, List.setIfInBounds_toArray, List.set_cons_zero, List.set_cons_succ]
                refine wpAnyH_ready (rs := [9]) (by kernel_rfl) (by simp) ?_
                refine AllReadyH.cons (o := { dst := some 32, op := Op.buildSlice 25 1 #[(0, Operand.tmp 31)], type := 25, pos := "law.go:70", after := #[{ on := 8, ground := Ground.data }], guard := none }) rfl (fun K hK => ?_) AllReadyH.nil
                go_simp
                refine rowTStep [[ds1]] ?_
                intro W5 hna hrt
                have ht := ht.new hna
                have hn := hn.thenNew hna
                have hc := hc.new hna
                have hsz := Nat.le_trans hsz hna.size
                refine hK.out _ _ (by first | exact hn | exact Upd.alloc hn _) (fun hn => ?_)
                clear hK K
                try simp only [Act.put, List.setIfInBounds_toArray, List.set_cons_zero, List.set_cons_succ]
                refine wpAnyH_ready (rs := [10]) (by kernel_rfl) (by simp) ?_
                refine AllReadyH.cons (o := { dst := some 33, op := Op.call { callee := Callee.builtin Builtin.append, args := #[Operand.tmp 26, Operand.tmp 32], argTypes := #[25, 25] }, type := 25, pos := "law.go:70", after := #[{ on := 3, ground := Ground.data }, { on := 9, ground := Ground.data }, { on := 6, ground := Ground.chain }], guard := none }) rfl (fun K hK => ?_) AllReadyH.nil
                refine stepT (.tmp 26) (.tmp 32) ht.txt hrt (by have := HPL.out.2; simp at this ⊢; omega) (by kernel_rfl) rfl rfl rfl ?_
                intro v8 wb htx haa
                obtain ⟨a8, n8, c8, rfl⟩ := htx.slice
                have hst := ht.stored haa htx
                have hn0 := hn
                have hbb := ht.cell.upd haa.upd ht.apart
                have hn := hn.trans haa.upd (fun k _ h => Or.inr (Or.inr h))
                refine hK.out _ _ (by first | exact hn | exact Upd.alloc hn _) (fun hn => ?_)
                clear hK K
                try simp only [Act.put, List.setIfInBounds_toArray, List.set_cons_zero, List.set_cons_succ]
                refine wpAnyH_take (i := 11) (oi := { dst := some 34, op := Op.nilCheck (Operand.tmp 23), type := 0, pos := "law.go:70", after := #[{ on := 0, ground := Ground.data }, { on := 0, ground := Ground.phase }, { on := 1, ground := Ground.phase }, { on := 2, ground := Ground.phase }, { on := 3, ground := Ground.phase }, { on := 4, ground := Ground.phase }, { on := 5, ground := Ground.phase }, { on := 6, ground := Ground.phase }, { on := 7, ground := Ground.phase }, { on := 8, ground := Ground.phase }, { on := 9, ground := Ground.phase }, { on := 10, ground := Ground.phase }], guard := none }) (v := ?v32x9) rfl (by kernel_rfl) (by kernel_rfl) (by kernel_rfl) (fun _ _ _ h => h) (Or.inl ⟨by rfl, ?y32x9⟩) hn ?r32x9
                case y32x9 => (intro wS hS; (try go_simp); (try with_reducible rfl))
                try simp only [Act.put, List.setIfInBounds_toArray, List.set_cons_zero, List.set_cons_succ]
                refine wpAnyH_ready (rs := [12]) (by kernel_rfl) (by simp) ?_
                refine AllReadyH.cons (o := { dst := none, op := Op.store 25 (Operand.tmp 34) (Operand.tmp 33), type := 0, pos := "law.go:70", after := #[{ on := 11, ground := Ground.data }, { on := 10, ground := Ground.data }, { on := 10, ground := Ground.chain }, { on := 0, ground := Ground.phase }, { on := 1, ground := Ground.phase }, { on := 2, ground := Ground.phase }, { on := 3, ground := Ground.phase }, { on := 4, ground := Ground.phase }, { on := 5, ground := Ground.phase }, { on := 6, ground := Ground.phase }, { on := 7, ground := Ground.phase }, { on := 8, ground := Ground.phase }, { on := 9, ground := Ground.phase }, { on := 10, ground := Ground.phase }], guard := none }) rfl (fun K hK => ?_) AllReadyH.nil
                have cb := hbb.c
                have fb := hbb.f
                go_simp
                have hn := hn0.trans hst.2.1 (fun k _ h => Or.inr h)
                refine hK.out _ _ (by first | exact hn | exact Upd.alloc hn _) (fun hn => ?_)
                clear hK K
                try simp only [Act.put, List.setIfInBounds_toArray, List.set_cons_zero, List.set_cons_succ]
                refine wpAnyH_done (by kernel_rfl) ?_ _
                go_wp2_with fail
                go_meet
                exact ⟨_, _, _, ⟨HAO.out, by rw [HD.out]; decide, hn, hst.1, (Grown.refl _ _).trans hsz hst.2.2, HSU.out.cur hc hst.2.1 (fun _ h => h)⟩⟩
              refine AllReadyH.cons (o := { dst := some 32, op := Op.buildSlice 25 1 #[(0, Operand.tmp 31)], type := 25, pos := "law.go:70", after := #[{ on := 8, ground := Ground.data }], guard := none }) rfl (fun K hK => ?_) AllReadyH.nil
              go_simp
              refine rowTStep [[ds1]] ?_
              intro W5 hna hrt
              have ht := ht.new hna
              have hn := hn.thenNew hna
              have hc := hc.new hna
              have hsz := Nat.le_trans hsz hna.size
              refine hK.out _ _ (by first | exact hn | exact Upd.alloc hn _) (fun hn => ?_)
              clear hK K
              try simp only [Act.put, List.setIfInBounds_toArray, List.set_cons_zero, List.set_cons_succ]
              refine wpAnyH_ready (rs := [3]) (by kernel_rfl) (by simp) ?_
              refine AllReadyH.cons (o := { dst := some 26, op := Op.load 25 (Operand.tmp 25), type := 25, pos := "law.go:70", after := #[{ on := 2, ground := Ground.data }], guard := none }) rfl (fun K hK => ?_) AllReadyH.nil
              have c := ht.cell.c
              go_simp
              refine hK.out _ _ (by first | exact hn | exact Upd.alloc hn _) (fun hn => ?_)
              clear hK K
              try simp only [Act.put, List.setIfInBounds_toArray, List.set_cons_zero, List.set_cons_succ]
              refine wpAnyH_ready (rs := [10]) (by kernel_rfl) (by simp) ?_
              refine AllReadyH.cons (o := { dst := some 33, op := Op.call { callee := Callee.builtin Builtin.append, args := #[Operand.tmp 26, Operand.tmp 32], argTypes := #[25, 25] }, type := 25, pos := "law.go:70", after := #[{ on := 3, ground := Ground.data }, { on := 9, ground := Ground.data }, { on := 6, ground := Ground.chain }], guard := none }) rfl (fun K hK => ?_) AllReadyH.nil
              refine stepT (.tmp 26) (.tmp 32) ht.txt hrt (by have := HPL.out.2; simp at this ⊢; omega) (by kernel_rfl) rfl rfl rfl ?_
              intro v8 wb htx haa
              obtain ⟨a8, n8, c8, rfl⟩ := htx.slice
              have hst := ht.stored haa htx
              have hn0 := hn
              have hbb := ht.cell.upd haa.upd ht.apart
              have hn := hn.trans haa.upd (fun k _ h => Or.inr (Or.inr h))
              refine hK.out _ _ (by first | exact hn | exact Upd.alloc hn _) (fun hn => ?_)
              clear hK K
              try simp only [Act.put, List.setIfInBounds_toArray, List.set_cons_zero, List.set_cons_succ]
              refine wpAnyH_take (i := 11) (oi := { dst := some 34, op := Op.nilCheck (Operand.tmp 23), type := 0, pos := "law.go:70", after := #[{ on := 0, ground := Ground.data }, { on := 0, ground := Ground.phase }, { on := 1, ground := Ground.phase }, { on := 2, ground := Ground.phase }, { on := 3, ground := Ground.phase }, { on := 4, ground := Ground.phase }, { on := 5, ground := Ground.phase }, { on := 6, ground := Ground.phase }, { on := 7, ground := Ground.phase }, { on := 8, ground := Ground.phase }, { on := 9, ground := Ground.phase }, { on := 10, ground := Ground.phase }], guard := none }) (v := ?v32x10) rfl (by kernel_rfl) (by kernel_rfl) (by kernel_rfl) (fun _ _ _ h => h) (Or.inl ⟨by rfl, ?y32x10⟩) hn ?r32x10
              case y32x10 => (intro wS hS; (try go_simp); (try with_reducible rfl))
              try simp only [Act.put, List.setIfInBounds_toArray, List.set_cons_zero, List.set_cons_succ]
              refine wpAnyH_ready (rs := [12]) (by kernel_rfl) (by simp) ?_
              refine AllReadyH.cons (o := { dst := none, op := Op.store 25 (Operand.tmp 34) (Operand.tmp 33), type := 0, pos := "law.go:70", after := #[{ on := 11, ground := Ground.data }, { on := 10, ground := Ground.data }, { on := 10, ground := Ground.chain }, { on := 0, ground := Ground.phase }, { on := 1, ground := Ground.phase }, { on := 2, ground := Ground.phase }, { on := 3, ground := Ground.phase }, { on := 4, ground := Ground.phase }, { on := 5, ground := Ground.phase }, { on := 6, ground := Ground.phase }, { on := 7, ground := Ground.phase }, { on := 8, ground := Ground.phase }, { on := 9, ground := Ground.phase }, { on := 10, ground := Ground.phase }], guard := none }) rfl (fun K hK => ?_) AllReadyH.nil
              have cb := hbb.c
              have fb := hbb.f
              go_simp
              have hn := hn0.trans hst.2.1 (fun k _ h => Or.inr h)
              refine hK.out _ _ (by first | exact hn | exact Upd.alloc hn _) (fun hn => ?_)
              clear hK K
              try simp only [Act.put, List.setIfInBounds_toArray, List.set_cons_zero, List.set_cons_succ]
              refine wpAnyH_done (by kernel_rfl) ?_ _
              go_wp2_with fail
              go_meet
              exact ⟨_, _, _, ⟨HAO.out, by rw [HD.out]; decide, hn, hst.1, (Grown.refl _ _).trans hsz hst.2.2, HSU.out.cur hc hst.2.1 (fun _ h => h)⟩⟩
          · skip
            have HCL : Hid (∀ W g, New w4 W → W.heap[g]? = some (.cells (valW a.x (.slice pa a.x.picks.length pc)) 47) → w4.heap.size ≤ g → Calls Try.prog 21 #[.pointer (some ⟨C, 0, none⟩), .func (.func 49) #[] #[.pointer (some ⟨g, 0, none⟩)]] W (Got C vb bs lim UintV (uintO bs lim a.x.may q) W)) := fun W g hW hg hgl => by
              have hwk : ∀ w1, Upd (· = C) W w1 → WantOk a.x (.slice pa a.x.picks.length pc) w1 := fun w1 hu =>
                wantOk_of HWF.out HFA.out HD.out (HP.out.upd (S := SS C Bo u0) (((U0.out.thenNew HN4.out).thenNew hW).trans hu (fun k _ h => .inl h)) (fun hne k hk => (HPB.out hne k hk).2))
              have := Uint_any (HQ.out.new hW) HIQ.out 49 #[.pointer (some ⟨g, 0, none⟩)] (fun _ _ => rfl) (wantL a.x)
                (fun r' w1 hu h0 h1 => want_any a.x _ g r' w1 (hwk w1 hu) ((hu.block g (Array.getElem?_eq_some_iff.1 hg).1 (fun e => by have := HQ.out.lt; omega)).trans hg) h0 h1) (fun r => wantL_few (hwk W (Upd.refl _ _)) r)
              rw [uintO_congr HIQ.out (fun r n h0 h1 hn => wantL_may (hwk W (Upd.refl _ _)) r n h0 h1 hn)] at this
              exact this
            obtain ⟨x, hx⟩ : ∃ x, uintO bs lim a.x.may q = x := ⟨_, rfl⟩
            have HAO : Hid (askO bs lim a q = x.bind fun ds q => .ok (numL (val ds) 8) q) := by
              show _ = _
              unfold askO
              rw [HD.out, if_neg (by decide), if_pos rfl]
              rw [hx]
            rw [hx] at HCL
            go_wp2_with fail
            cases x with
            | up q' er =>
              have HGONE : Hid (∀ wd, New w4 wd → ∀ wa, Upd (· = C) wd wa → Cur wa C vb bs q' lim er → Did C vb bs lim O.2 wa (.panicked [{ v := gave C, recovered := false }]) ∧ Upd (SS C Bo u0) w wa ∧ ∃ u', Outs wa Bo u' (ds ++ O.1) ∧ Grown w u0 u') := by
                intro wd hnd wa hua hca
                obtain ⟨t, ht, -⟩ := HRT.out
                have h1 := IR.out.ho1
                have h2 := IR.out.ho2
                rw [ht, allO_up (by rw [HD.out]; decide) HAO.out] at h1 h2
                have hup : Upd (SS C Bo u) w4 wa := (New.upd hnd).trans hua (fun k _ h => Or.inl h)
                refine ⟨?_, ?_, u, ?_, (Grown.refl _ _).trans HN3.out.size IR.out.gr⟩
                · rw [h2]; exact ⟨rfl, hca⟩
                · exact ss_grow (U0.out.thenNew HN4.out) ((Grown.refl _ _).trans HN3.out.size IR.out.gr) hup
                · rw [h1, List.append_nil]; exact (HT.out.new hnd).upd hua (fun k hk e => HSU.out.co (by rw [← e]; exact hk))
              clear hx
              have hnn : New w4 w4.drew := (Upd.refl _ _).drew
              have hn : Upd (SS C Bo u) w4 w4.drew := (Upd.refl _ _).drew
              have hsz : w4.heap.size ≤ w4.drew.heap.size := Nat.le_refl _
              have ht := HT.out.new hnn
              refine wp_region_held_drew (S := (Upd (SS C Bo u) w4)) (by kernel_rfl) (by first | exact hn | exact (Upd.refl _ _).drew | exact Upd.drew (by assumption)) (fun hn => ?_)
              generalize w4.drew = wd at *
              refine wpAnyH_take (i := 0) (oi := { dst := some 37, op := Op.load 31 (Operand.tmp 5), type := 31, pos := "law.go:72", after := #[], guard := none }) (v := ?v33x1) rfl (by kernel_rfl) (by kernel_rfl) (by kernel_rfl) (fun _ _ _ h => h) (Or.inl ⟨by rfl, ?y33x1⟩) hn ?r33x1
              case y33x1 => (intro wS hS; have c := E5.out _ hS; (try go_simp); (try with_reducible rfl))
              try simp only [Act.put, List.setIfInBounds_toArray, List.set_cons_zero, List.set_cons_succ]
              refine wpAnyH_take (i := 1) (oi := { dst := some 38, op := Op.load 31 (Operand.tmp 5), type := 31, pos := "law.go:72", after := #[], guard := none }) (v := ?v33x2) rfl (by kernel_rfl) (by kernel_rfl) (by kernel_rfl) (fun _ _ _ h => h) (Or.inl ⟨by rfl, ?y33x2⟩) hn ?r33x2
              case y33x2 => (intro wS hS; have c := E5.out _ hS; (try go_simp); (try with_reducible rfl))
              try simp only [Act.put, List.setIfInBounds_toArray, List.set_cons_zero, List.set_cons_succ]
              refine wpAnyH_take (i := 2) (oi := { dst := some 39, op := Op.nilCheck (Operand.tmp 38), type := 0, pos := "law.go:72", after := #[{ on := 1, ground := Ground.data }], guard := none }) (v := ?v33x3) rfl (by kernel_rfl) (by kernel_rfl) (by kernel_rfl) (fun _ _ _ h => h) (Or.inl ⟨by rfl, ?y33x3⟩) hn ?r33x3
              case y33x3 => (intro wS hS; (try go_simp); (try with_reducible rfl))
              try simp only [Act.put, List.setIfInBounds_toArray, List.set_cons_zero, List.set_cons_succ]
              refine wpAnyH_take (i := 4) (oi := { dst := some 41, op := Op.load 29 (Operand.tmp 3), type := 29, pos := "law.go:72", after := #[], guard := none }) (v := ?v33x4) rfl (by kernel_rfl) (by kernel_rfl) (by kernel_rfl) (fun _ _ _ h => h) (Or.inl ⟨by rfl, ?y33x4⟩) hn ?r33x4
              case y33x4 => (intro wS hS; have c := E3.out _ hS; (try go_simp); (try with_reducible rfl))
              try simp only [Act.put, List.setIfInBounds_toArray, List.set_cons_zero, List.set_cons_succ]
              refine wpAnyH_take (i := 5) (oi := { dst := some 42, op := Op.fieldAddr 49 (Operand.tmp 7) 4, type := 0, pos := "law.go:72", after := #[], guard := none }) (v := ?v33x5) rfl (by kernel_rfl) (by kernel_rfl) (by kernel_rfl) (fun _ _ _ h => h) (Or.inl ⟨by rfl, ?y33x5⟩) hn ?r33x5
              case y33x5 => (intro wS hS; (try go_simp); (try with_reducible rfl))
              try simp only [Act.put, List.setIfInBounds_toArray, List.set_cons_zero, List.set_cons_succ]
              refine wpAnyH_take (i := 6) (oi := { dst := some 43, op := Op.load 47 (Operand.tmp 42), type := 47, pos := "law.go:72", after := #[{ on := 5, ground := Ground.data }], guard := none }) (v := ?v33x6) rfl (by kernel_rfl) (by kernel_rfl) (by kernel_rfl) (fun _ _ _ h => h) (Or.inl ⟨by rfl, ?y33x6⟩) hn ?r33x6
              case y33x6 => (intro wS hS; have c4 := CELL.out _ hS 4 _ rfl ; have c5 := CELL.out _ hS 5 _ rfl ; have c6 := CELL.out _ hS 6 _ rfl ; have c7 := CELL.out _ hS 7 _ rfl ; have c8 := CELL.out _ hS 8 _ rfl ; have c9 := CELL.out _ hS 9 _ rfl ; have c10 := CELL.out _ hS 10 _ rfl ; have c11 := CELL.out _ hS 11 _ rfl ; have c12 := CELL.out _ hS 12 _ rfl ; have c13 := CELL.out _ hS 13 _ rfl; (try go_simp); (try with_reducible rfl))
              try simp only [Act.put, List.setIfInBounds_toArray, List.set_cons_zero, List.set_cons_succ]
              refine wpAnyH_ready (rs := [3, 7]) (by kernel_rfl) (by simp) ?_
              refine AllReadyH.cons (o := { dst := some 40, op := Op.load 25 (Operand.tmp 39), type := 25, pos := "law.go:72", after := #[{ on := 2, ground := Ground.data }], guard := none }) rfl (fun K hK => ?_) ?_
              · skip
                have c := ht.cell.c
                go_simp
                refine hK.out _ _ (by first | exact hn | exact Upd.alloc hn _) (fun hn => ?_)
                clear hK K
                try simp only [Act.put, List.setIfInBounds_toArray, List.set_cons_zero, List.set_cons_succ]
                refine wpAnyH_ready (rs := [7]) (by kernel_rfl) (by simp) ?_
                refine AllReadyH.cons (o := { dst := some 44, op := Op.call { callee := Callee.value (Operand.func 22), args := #[Operand.tmp 43], argTypes := #[47] }, type := 65, pos := "law.go:72", after := #[{ on := 6, ground := Ground.data }], guard := none }) rfl (fun K hK => ?_) AllReadyH.nil
                go_simp
                refine (want_made a.x (.slice pa a.x.picks.length pc) _).mono ?_
                rintro e wa ⟨g, rfl, hna, hgl, hgb⟩
                go_wp2_with fail
                have hgl := Nat.le_trans hsz hgl
                have ht := ht.new hna
                have hn := hn.thenNew hna
                have hnn := New.trans hnn hna
                have hsz := Nat.le_trans hsz hna.size
                refine hK.out _ _ (by first | exact hn | exact Upd.alloc hn _) (fun hn => ?_)
                clear hK K
                try simp only [Act.put, List.setIfInBounds_toArray, List.set_cons_zero, List.set_cons_succ]
                refine wpAnyH_ready (rs := [8]) (by kernel_rfl) (by simp) ?_
                refine AllReadyH.cons (o := { dst := some 45, op := Op.call { callee := Callee.value (Operand.func 21), args := #[Operand.tmp 41, Operand.tmp 44], argTypes := #[29, 65] }, type := 62, pos := "law.go:72", after := #[{ on := 4, ground := Ground.data }, { on := 7, ground := Ground.data }, { on := 7, ground := Ground.chain }], guard := none }) rfl (fun K hK => ?_) AllReadyH.nil
                go_simp
                refine (HCL.out _ g hnn hgb hgl).mono ?_
                rintro e wa ⟨hua, rfl, hca⟩
                go_wp2_with fail
                have hg := HGONE.out _ hnn wa hua hca
                exact ⟨rfl, hg.2.1, hg.1, hg.2.2⟩
              refine AllReadyH.cons (o := { dst := some 44, op := Op.call { callee := Callee.value (Operand.func 22), args := #[Operand.tmp 43], argTypes := #[47] }, type := 65, pos := "law.go:72", after := #[{ on := 6, ground := Ground.data }], guard := none }) rfl (fun K hK => ?_) AllReadyH.nil
              go_simp
              refine (want_made a.x (.slice pa a.x.picks.length pc) _).mono ?_
              rintro e wa ⟨g, rfl, hna, hgl, hgb⟩
              go_wp2_with fail
              have hgl := Nat.le_trans hsz hgl
              have ht := ht.new hna
              have hn := hn.thenNew hna
              have hnn := New.trans hnn hna
              have hsz := Nat.le_trans hsz hna.size
              refine hK.out _ _ (by first | exact hn | exact Upd.alloc hn _) (fun hn => ?_)
              clear hK K
              try simp only [Act.put, List.setIfInBounds_toArray, List.set_cons_zero, List.set_cons_succ]
              refine wpAnyH_ready (rs := [3, 8]) (by kernel_rfl) (by simp) ?_
              refine AllReadyH.cons (o := { dst := some 40, op := Op.load 25 (Operand.tmp 39), type := 25, pos := "law.go:72", after := #[{ on := 2, ground := Ground.data }], guard := none }) rfl (fun K hK => ?_) ?_
              · skip
                have c := ht.cell.c
                go_simp
                refine hK.out _ _ (by first | exact hn | exact Upd.alloc hn _) (fun hn => ?_)
                clear hK K
                try simp only [Act.put, List.setIfInBounds_toArray, List.set_cons_zero, List.set_cons_succ]
                refine wpAnyH_ready (rs := [8]) (by kernel_rfl) (by simp) ?_
                refine AllReadyH.cons (o := { dst := some 45, op := Op.call { callee := Callee.value (Operand.func 21), args := #[Operand.tmp 41, Operand.tmp 44], argTypes := #[29, 65] }, type := 62, pos := "law.go:72", after := #[{ on := 4, ground := Ground.data }, { on := 7, ground := Ground.data }, { on := 7, ground := Ground.chain }], guard := none }) rfl (fun K hK => ?_) AllReadyH.nil
                go_simp
                refine (HCL.out _ g hnn hgb hgl).mono ?_
                rintro e wa ⟨hua, rfl, hca⟩
                go_wp2_with fail
                have hg := HGONE.out _ hnn wa hua hca
                exact ⟨rfl, hg.2.1, hg.1, hg.2.2⟩
              refine AllReadyH.cons (o := { dst := some 45, op := Op.call { callee := Callee.value (Operand.func 21), args := #[Operand.tmp 41, Operand.tmp 44], argTypes := #[29, 65] }, type := 62, pos := "law.go:72", after := #[{ on := 4, ground := Ground.data }, { on := 7, ground := Ground.data }, { on := 7, ground := Ground.chain }], guard := none }) rfl (fun K hK => ?_) AllReadyH.nil
              go_simp
              refine (HCL.out _ g hnn hgb hgl).mono ?_
              rintro e wa ⟨hua, rfl, hca⟩
              go_wp2_with fail
              have hg := HGONE.out _ hnn wa hua hca
              exact ⟨rfl, hg.2.1, hg.1, hg.2.2⟩
            | ok ds1 q' =>
              have HV := hid (uintO_ok hx).2.1
              clear hx
              have hnn : New w4 w4.drew := (Upd.refl _ _).drew
              have hn : Upd (SS C Bo u) w4 w4.drew := (Upd.refl _ _).drew
              have hsz : w4.heap.size ≤ w4.drew.heap.size := Nat.le_refl _
              have ht := HT.out.new hnn
              refine wp_region_held_drew (S := (Upd (SS C Bo u) w4)) (by kernel_rfl) (by first | exact hn | exact (Upd.refl _ _).drew | exact Upd.drew (by assumption)) (fun hn => ?_)
              generalize w4.drew = wd at *
              refine wpAnyH_take (i := 0) (oi := { dst := some 37, op := Op.load 31 (Operand.tmp 5), type := 31, pos := "law.go:72", after := #[], guard := none }) (v := ?v34x1) rfl (by kernel_rfl) (by kernel_rfl) (by kernel_rfl) (fun _ _ _ h => h) (Or.inl ⟨by rfl, ?y34x1⟩) hn ?r34x1
              case y34x1 => (intro wS hS; have c := E5.out _ hS; (try go_simp); (try with_reducible rfl))
              try simp only [Act.put, List.setIfInBounds_toArray, List.set_cons_zero, List.set_cons_succ]
              refine wpAnyH_take (i := 1) (oi := { dst := some 38, op := Op.load 31 (Operand.tmp 5), type := 31, pos := "law.go:72", after := #[], guard := none }) (v := ?v34x2) rfl (by kernel_rfl) (by kernel_rfl) (by kernel_rfl) (fun _ _ _ h => h) (Or.inl ⟨by rfl, ?y34x2⟩) hn ?r34x2
              case y34x2 => (intro wS hS; have c := E5.out _ hS; (try go_simp); (try with_reducible rfl))
              try simp only [Act.put, List.setIfInBounds_toArray, List.set_cons_zero, List.set_cons_succ]
              refine wpAnyH_take (i := 2) (oi := { dst := some 39, op := Op.nilCheck (Operand.tmp 38), type := 0, pos := "law.go:72", after := #[{ on := 1, ground := Ground.data }], guard := none }) (v := ?v34x3) rfl (by kernel_rfl) (by kernel_rfl) (by kernel_rfl) (fun _ _ _ h => h) (Or.inl ⟨by rfl, ?y34x3⟩) hn ?r34x3
              case y34x3 => (intro wS hS; (try go_simp); (try with_reducible rfl))
              try simp only [Act.put, List.setIfInBounds_toArray, List.set_cons_zero, List.set_cons_succ]
              refine wpAnyH_take (i := 4) (oi := { dst := some 41, op := Op.load 29 (Operand.tmp 3), type := 29, pos := "law.go:72", after := #[], guard := none }) (v := ?v34x4) rfl (by kernel_rfl) (by kernel_rfl) (by kernel_rfl) (fun _ _ _ h => h) (Or.inl ⟨by rfl, ?y34x4⟩) hn ?r34x4
              case y34x4 => (intro wS hS; have c := E3.out _ hS; (try go_simp); (try with_reducible rfl))
              try simp only [Act.put, List.setIfInBounds_toArray, List.set_cons_zero, List.set_cons_succ]
              refine wpAnyH_take (i := 5) (oi := { dst := some 42, op := Op.fieldAddr 49 (Operand.tmp 7) 4, type := 0, pos := "law.go:72", after := #[], guard := none }) (v := ?v34x5) rfl (by kernel_rfl) (by kernel_rfl) (by kernel_rfl) (fun _ _ _ h => h) (Or.inl ⟨by rfl, ?y34x5⟩) hn ?r34x5
              case y34x5 => (intro wS hS; (try go_simp); (try with_reducible rfl))
              try simp only [Act.put, List.setIfInBounds_toArray, List.set_cons_zero, List.set_cons_succ]
              refine wpAnyH_take (i := 6) (oi := { dst := some 43, op := Op.load 47 (Operand.tmp 42), type := 47, pos := "law.go:72", after := #[{ on := 5, ground := Ground.data }], guard := none }) (v := ?v34x6) rfl (by kernel_rfl) (by kernel_rfl) (by kernel_rfl) (fun _ _ _ h => h) (Or.inl ⟨by rfl, ?y34x6⟩) hn ?r34x6
              case y34x6 => (intro wS hS; have c4 := CELL.out _ hS 4 _ rfl ; have c5 := CELL.out _ hS 5 _ rfl ; have c6 := CELL.out _ hS 6 _ rfl ; have c7 := CELL.out _ hS 7 _ rfl ; have c8 := CELL.out _ hS 8 _ rfl ; have c9 := CELL.out _ hS 9 _ rfl ; have c10 := CELL.out _ hS 10 _ rfl ; have c11 := CELL.out _ hS 11 _ rfl ; have c12 := CELL.out _ hS 12 _ rfl ; have c13 := CELL.out _ hS 13 _ rfl; (try go_simp); (try with_reducible rfl))
              try simp only [Act.put, List.setIfInBounds_toArray, List.set_cons_zero, List.set_cons_succ]
              refine wpAnyH_ready (rs := [3, 7]) (by kernel_rfl) (by simp) ?_
              refine AllReadyH.cons (o := { dst := some 40, op := Op.load 25 (Operand.tmp 39), type := 25, pos := "law.go:72", after := #[{ on := 2, ground := Ground.data }], guard := none }) rfl (fun K hK => ?_) ?_
              · skip
                have c := ht.cell.c
                go_simp
                refine hK.out _ _ (by first | exact hn | exact Upd.alloc hn _) (fun hn => ?_)
                clear hK K
                try simp only [Act.put, List.setIfInBounds_toArray, List.set_cons_zero, List.set_cons_succ]
                refine wpAnyH_ready (rs := [7]) (by kernel_rfl) (by simp) ?_
                refine AllReadyH.cons (o := { dst := some 44, op := Op.call { callee := Callee.value (Operand.func 22), args := #[Operand.tmp 43], argTypes := #[47] }, type := 65, pos := "law.go:72", after := #[{ on := 6, ground := Ground.data }], guard := none }) rfl (fun K hK => ?_) AllReadyH.nil
                go_simp
                refine (want_made a.x (.slice pa a.x.picks.length pc) _).mono ?_
                rintro e wa ⟨g, rfl, hna, hgl, hgb⟩
                go_wp2_with fail
                have hgl := Nat.le_trans hsz hgl
                have ht := ht.new hna
                have hn := hn.thenNew hna
                have hnn := New.trans hnn hna
                have hsz := Nat.le_trans hsz hna.size
                refine hK.out _ _ (by first | exact hn | exact Upd.alloc hn _) (fun hn => ?_)
                clear hK K
                try simp only [Act.put, List.setIfInBounds_toArray, List.set_cons_zero, List.set_cons_succ]
                refine wpAnyH_ready (rs := [8]) (by kernel_rfl) (by simp) ?_
                refine AllReadyH.cons (o := { dst := some 45, op := Op.call { callee := Callee.value (Operand.func 21), args := #[Operand.tmp 41, Operand.tmp 44], argTypes := #[29, 65] }, type := 62, pos := "law.go:72", after := #[{ on := 4, ground := Ground.data }, { on := 7, ground := Ground.data }, { on := 7, ground := Ground.chain }], guard := none }) rfl (fun K hK => ?_) AllReadyH.nil
                go_simp
                refine (HCL.out _ g hnn hgb hgl).mono ?_
                rintro e wa ⟨hua, rfl, hc⟩
                unfold UintV
                go_wp2_with fail
                have ht := ht.upd hua (fun k hk e => HSU.out.co (by rw [← e]; exact hk))
                have hn := hn.trans hua (fun k _ h => Or.inl h)
                have hsz := Nat.le_trans hsz hua.size
                refine hK.out _ _ (by first | exact hn | exact Upd.alloc hn _) (fun hn => ?_)
                clear hK K
                try simp only [Act.put, List.setIfInBounds_toArray, List.set_cons_zero, List.set_cons_succ]
                refine wpAnyH_take (i := 9) (oi := { dst := some 46, op := Op.convert 62 42 (Operand.tmp 45), type := 42, pos := "law.go:72", after := #[{ on := 8, ground := Ground.data }], guard := none }) (v := ?v34x7) rfl (by kernel_rfl) (by kernel_rfl) (by kernel_rfl) (fun _ _ _ h => h) (Or.inl ⟨by rfl, ?y34x7⟩) hn ?r34x7
                case y34x7 => (intro wS hS; (try go_simp); (try with_reducible rfl))
                try simp only [Act.put, List.setIfInBounds_toArray, List.set_cons_zero, List.set_cons_succ]
                refine wpAnyH_ready (rs := [10]) (by kernel_rfl) (by simp) ?_
                refine AllReadyH.cons (o := { dst := some 47, op := Op.call { callee := Callee.value (Operand.func 20), args := #[Operand.tmp 46], argTypes := #[42] }, type := 9, pos := "law.go:72", after := #[{ on := 9, ground := Ground.data }, { on := 8, ground := Ground.chain }], guard := none }) rfl (fun K hK => ?_) AllReadyH.nil
                go_simp
                rw [show IntKind.u64.wrap (((val ds1 : Nat) : Int) % 4294967296) = ((val ds1 : Nat) : Int) from by have := HV.out; simp only [IntKind.wrap, IntKind.bits, IntKind.signed, Bool.false_and, Bool.false_eq_true, if_false]; omega]
                refine (number_any _ (by have := HV.out; omega) _).mono ?_
                rintro e wa ⟨rfl, hna⟩
                unfold numV
                go_wp2_with fail
                have ht := ht.new hna
                have hn := hn.thenNew hna
                have hc := hc.new hna
                have hsz := Nat.le_trans hsz hna.size
                refine hK.out _ _ (by first | exact hn | exact Upd.alloc hn _) (fun hn => ?_)
                clear hK K
                try simp only [Act.put, List.setIfInBounds_toArray, List.set_cons_zero, List.set_cons_succ]
                refine wpAnyH_ready (rs := [11]) (by kernel_rfl) (by simp) ?_
                refine AllReadyH.cons (o := { dst := some 48, op := Op.buildSlice 25 1 #[(0, Operand.tmp 47)], type := 25, pos := "law.go:72", after := #[{ on := 10, ground := Ground.data }], guard := none }) rfl (fun K hK => ?_) AllReadyH.nil
                go_simp
                refine rowTStep [numL (val ds1) 8] ?_
                intro W5 hna hrt
                have ht := ht.new hna
                have hn := hn.thenNew hna
                have hc := hc.new hna
                have hsz := Nat.le_trans hsz hna.size
                refine hK.out _ _ (by first | exact hn | exact Upd.alloc hn _) (fun hn => ?_)
                clear hK K
                try simp only [Act.put, List.setIfInBounds_toArray, List.set_cons_zero, List.set_cons_succ]
                refine wpAnyH_ready (rs := [12]) (by kernel_rfl) (by simp) ?_
                refine AllReadyH.cons (o := { dst := some 49, op := Op.call { callee := Callee.builtin Builtin.append, args := #[Operand.tmp 40, Operand.tmp 48], argTypes := #[25, 25] }, type := 25, pos := "law.go:72", after := #[{ on := 3, ground := Ground.data }, { on := 11, ground := Ground.data }, { on := 10, ground := Ground.chain }], guard := none }) rfl (fun K hK => ?_) AllReadyH.nil
                refine stepT (.tmp 40) (.tmp 48) ht.txt hrt (by have := HPL.out.2; simp at this ⊢; omega) (by kernel_rfl) rfl rfl rfl ?_
                intro v8 wb htx haa
                obtain ⟨a8, n8, c8, rfl⟩ := htx.slice
                have hst := ht.stored haa htx
                have hn0 := hn
                have hbb := ht.cell.upd haa.upd ht.apart
                have hn := hn.trans haa.upd (fun k _ h => Or.inr (Or.inr h))
                refine hK.out _ _ (by first | exact hn | exact Upd.alloc hn _) (fun hn => ?_)
                clear hK K
                try simp only [Act.put, List.setIfInBounds_toArray, List.set_cons_zero, List.set_cons_succ]
                refine wpAnyH_take (i := 13) (oi := { dst := some 50, op := Op.nilCheck (Operand.tmp 37), type := 0, pos := "law.go:72", after := #[{ on := 0, ground := Ground.data }, { on := 0, ground := Ground.phase }, { on := 1, ground := Ground.phase }, { on := 2, ground := Ground.phase }, { on := 3, ground := Ground.phase }, { on := 4, ground := Ground.phase }, { on := 5, ground := Ground.phase }, { on := 6, ground := Ground.phase }, { on := 7, ground := Ground.phase }, { on := 8, ground := Ground.phase }, { on := 9, ground := Ground.phase }, { on := 10, ground := Ground.phase }, { on := 11, ground := Ground.phase }, { on := 12, ground := Ground.phase }], guard := none }) (v := ?v34x8) rfl (by kernel_rfl) (by kernel_rfl) (by kernel_rfl) (fun _ _ _ h => h) (Or.inl ⟨by rfl, ?y34x8⟩) hn ?r34x8
                case y34x8 => (intro wS hS; (try go_simp); (try with_reducible rfl))
                try simp only [Act.put, List.setIfInBounds_toArray, List.set_cons_zero, List.set_cons_succ]
                refine wpAnyH_ready (rs := [14]) (by kernel_rfl) (by simp) ?_
                refine AllReadyH.cons (o := { dst := none, op := Op.store 25 (Operand.tmp 50) (Operand.tmp 49), type := 0, pos := "law.go:72", after := #[{ on := 13, ground := Ground.data }, { on := 12, ground := Ground.data }, { on := 12, ground := Ground.chain }, { on := 0, ground := Ground.phase }, { on := 1, ground := Ground.phase }, { on := 2, ground := Ground.phase }, { on := 3, ground := Ground.phase }, { on := 4, ground := Ground.phase }, { on := 5, ground := Ground.phase }, { on := 6, ground := Ground.phase }, { on := 7, ground := Ground.phase }, { on := 8, ground := Ground.phase }, { on := 9, ground := Ground.phase }, { on := 10, ground := Ground.phase }, { on := 11, ground := Ground.phase }, { on := 12, ground := Ground.phase }], guard := none }) rfl (fun K hK => ?_) AllReadyH.nil
                have cb := hbb.c
                have fb := hbb.f
                go_simp
                have hn := hn0.trans hst.2.1 (fun k _ h => Or.inr h)
                refine hK.out _ _ (by first | exact hn | exact Upd.alloc hn _) (fun hn => ?_)
                clear hK K
                try simp only [Act.put, List.setIfInBounds_toArray, List.set_cons_zero, List.set_cons_succ]
                refine wpAnyH_done (by kernel_rfl) ?_ _
                go_wp2_with fail
                go_meet
                exact ⟨_, _, _, ⟨HAO.out, by rw [HD.out]; decide, hn, hst.1, (Grown.refl _ _).trans hsz hst.2.2, HSU.out.cur hc hst.2.1 (fun _ h => h)⟩⟩
              refine AllReadyH.cons (o := { dst := some 44, op := Op.call { callee := Callee.value (Operand.func 22), args := #[Operand.tmp 43], argTypes := #[47] }, type := 65, pos := "law.go:72", after := #[{ on := 6, ground := Ground.data }], guard := none }) rfl (fun K hK => ?_) AllReadyH.nil
              go_simp
              refine (want_made a.x (.slice pa a.x.picks.length pc) _).mono ?_
              rintro e wa ⟨g, rfl, hna, hgl, hgb⟩
              go_wp2_with fail
              have hgl := Nat.le_trans hsz hgl
              have ht := ht.new hna
              have hn := hn.thenNew hna
              have hnn := New.trans hnn hna
              have hsz := Nat.le_trans hsz hna.size
              refine hK.out _ _ (by first | exact hn | exact Upd.alloc hn _) (fun hn => ?_)
              clear hK K
              try simp only [Act.put, List.setIfInBounds_toArray, List.set_cons_zero, List.set_cons_succ]
              refine wpAnyH_ready (rs := [3, 8]) (by kernel_rfl) (by simp) ?_
              refine AllReadyH.cons (o := { dst := some 40, op := Op.load 25 (Operand.tmp 39), type := 25, pos := "law.go:72", after := #[{ on := 2, ground := Ground.data }], guard := none }) rfl (fun K hK => ?_) ?_
              · skip
                have c := ht.cell.c
                go_simp
                refine hK.out _ _ (by first | exact hn | exact Upd.alloc hn _) (fun hn => ?_)
                clear hK K
                try simp only [Act.put, List.setIfInBounds_toArray, List.set_cons_zero, List.set_cons_succ]
                refine wpAnyH_ready (rs := [8]) (by kernel_rfl) (by simp) ?_
                refine AllReadyH.cons (o := { dst := some 45, op := Op.call { callee := Callee.value (Operand.func 21), args := #[Operand.tmp 41, Operand.tmp 44], argTypes := #[29, 65] }, type := 62, pos := "law.go:72", after := #[{ on := 4, ground := Ground.data }, { on := 7, ground := Ground.data }, { on := 7, ground := Ground.chain }], guard := none }) rfl (fun K hK => ?_) AllReadyH.nil
                go_simp
                refine (HCL.out _ g hnn hgb hgl).mono ?_
                rintro e wa ⟨hua, rfl, hc⟩
                unfold UintV
                go_wp2_with fail
                have ht := ht.upd hua (fun k hk e => HSU.out.co (by rw [← e]; exact hk))
                have hn := hn.trans hua (fun k _ h => Or.inl h)
                have hsz := Nat.le_trans hsz hua.size
                refine hK.out _ _ (by first | exact hn | exact Upd.alloc hn _) (fun hn => ?_)
                clear hK K
                try simp only [Act.put, List.setIfInBounds_toArray, List.set_cons_zero, List.set_cons_succ]
                refine wpAnyH_take (i := 9) (oi := { dst := some 46, op := Op.convert 62 42 (Operand.tmp 45), type := 42, pos := "law.go:72", after := #[{ on := 8, ground := Ground.data }], guard := none }) (v := ?v34x9) rfl (by kernel_rfl) (by kernel_rfl) (by kernel_rfl) (fun _ _ _ h => h) (Or.inl ⟨by rfl, ?y34x9⟩) hn ?r34x9
                case y34x9 => (intro wS hS; (try go_simp); (try with_reducible rfl))
                try simp only [Act.put, List.setIfInBounds_toArray, List.set_cons_zero, List.set_cons_succ]
                refine wpAnyH_ready (rs := [10]) (by kernel_rfl) (by simp) ?_
                refine AllReadyH.cons (o := { dst := some 47, op := Op.call { callee := Callee.value (Operand.func 20), args := #[Operand.tmp 46], argTypes := #[42] }, type := 9, pos := "law.go:72", after := #[{ on := 9, ground := Ground.data }, { on := 8, ground := Ground.chain }], guard := none }) rfl (fun K hK => ?_) AllReadyH.nil
                go_simp
                rw [show IntKind.u64.wrap (((val ds1 : Nat) : Int) % 4294967296) = ((val ds1 : Nat) : Int) from by have := HV.out; simp only [IntKind.wrap, IntKind.bits, IntKind.signed, Bool.false_and, Bool.false_eq_true, if_false]; omega]
                refine (number_any _ (by have := HV.out; omega) _).mono ?_
                rintro e wa ⟨rfl, hna⟩
                unfold numV
                go_wp2_with fail
                have ht := ht.new hna
                have hn := hn.thenNew hna
                have hc := hc.new hna
                have hsz := Nat.le_trans hsz hna.size
                refine hK.out _ _ (by first | exact hn | exact Upd.alloc hn _) (fun hn => ?_)
                clear hK K
                try simp only [Act.put, List.setIfInBounds_toArray, List.set_cons_zero, List.set_cons_succ]
                refine wpAnyH_ready (rs := [11]) (by kernel_rfl) (by simp) ?_
                refine AllReadyH.cons (o := { dst := some 48, op := Op.buildSlice 25 1 #[(0, Operand.tmp 47)], type := 25, pos := "law.go:72", after := #[{ on := 10, ground := Ground.data }], guard := none }) rfl (fun K hK => ?_) AllReadyH.nil
                go_simp
                refine rowTStep [numL (val ds1) 8] ?_
                intro W5 hna hrt
                have ht := ht.new hna
                have hn := hn.thenNew hna
                have hc := hc.new hna
                have hsz := Nat.le_trans hsz hna.size
                refine hK.out _ _ (by first | exact hn | exact Upd.alloc hn _) (fun hn => ?_)
                clear hK K
                try simp only [Act.put, List.setIfInBounds_toArray, List.set_cons_zero, List.set_cons_succ]
                refine wpAnyH_ready (rs := [12]) (by kernel_rfl) (by simp) ?_
                refine AllReadyH.cons (o := { dst := some 49, op := Op.call { callee := Callee.builtin Builtin.append, args := #[Operand.tmp 40, Operand.tmp 48], argTypes := #[25, 25] }, type := 25, pos := "law.go:72", after := #[{ on := 3, ground := Ground.data }, { on := 11, ground := Ground.data }, { on := 10, ground := Ground.chain }], guard := none }) rfl (fun K hK => ?_) AllReadyH.nil
                refine stepT (.tmp 40) (.tmp 48) ht.txt hrt (by have := HPL.out.2; simp at this ⊢; omega) (by kernel_rfl) rfl rfl rfl ?_
                intro v8 wb htx haa
                obtain ⟨a8, n8, c8, rfl⟩ := htx.slice
                have hst := ht.stored haa htx
                have hn0 := hn
                have hbb := ht.cell.upd haa.upd ht.apart
                have hn := hn.trans haa.upd (fun k _ h => Or.inr (Or.inr h))
                refine hK.out _ _ (by first | exact hn | exact Upd.alloc hn _) (fun hn => ?_)
                clear hK K
                try simp only [Act.put, List.setIfInBounds_toArray, List.set_cons_zero, List.set_cons_succ]
                refine wpAnyH_take (i := 13) (oi := { dst := some 50, op := Op.nilCheck (Operand.tmp 37), type := 0, pos := "law.go:72", after := #[{ on := 0, ground := Ground.data }, { on := 0, ground := Ground.phase }, { on := 1, ground := Ground.phase }, { on := 2, ground := Ground.phase }, { on := 3, ground := Ground.phase }, { on := 4, ground := Ground.phase }, { on := 5, ground := Ground.phase }, { on := 6, ground := Ground.phase }, { on := 7, ground := Ground.phase }, { on := 8, ground := Ground.phase }, { on := 9, ground := Ground.phase }, { on := 10, ground := Ground.phase }, { on := 11, ground := Ground.phase }, { on := 12, ground := Ground.phase }], guard := none }) (v := ?v34x10) rfl (by kernel_rfl) (by kernel_rfl) (by kernel_rfl) (fun _ _ _ h => h) (Or.inl ⟨by rfl, ?y34x10⟩) hn ?r34x10
                case y34x10 => (intro wS hS; (try go_simp); (try with_reducible rfl))
                try simp only [Act.put, List.setIfInBounds_toArray, List.set_cons_zero, List.set_cons_succ]
                refine wpAnyH_ready (rs := [14]) (by kernel_rfl) (by simp) ?_
                refine AllReadyH.cons (o := { dst := none, op := Op.store 25 (Operand.tmp 50) (Operand.tmp 49), type := 0, pos := "law.go:72", after := #[{ on := 13, ground := Ground.data }, { on := 12, ground := Ground.data }, { on := 12, ground := Ground.chain }, { on := 0, ground := Ground.phase }, { on := 1, ground := Ground.phase }, { on := 2, ground := Ground.phase }, { on := 3, ground := Ground.phase }, { on := 4, ground := Ground.phase }, { on := 5, ground := Ground.phase }, { on := 6, ground := Ground.phase }, { on := 7, ground := Ground.phase }, { on := 8, ground := Ground.phase }, { on := 9, ground := Ground.phase }, { on := 10, ground := Ground.phase }, { on := 11, ground := Ground.phase }, { on := 12, ground := Ground.phase }], guard := none }) rfl (fun K hK => ?_) AllReadyH.nil
                have cb := hbb.c
                have fb := hbb.f
                go_simp
                have hn := hn0.trans hst.2.1 (fun k _ h => Or.inr h)
                refine hK.out _ _ (by first | exact hn | exact Upd.alloc hn _) (fun hn => ?_)
                clear hK K
                try simp only [Act.put, List.setIfInBounds_toArray, List.set_cons_zero, List.set_cons_succ]
                refine wpAnyH_done (by kernel_rfl) ?_ _
                go_wp2_with fail
                go_meet
                exact ⟨_, _, _, ⟨HAO.out, by rw [HD.out]; decide, hn, hst.1, (Grown.refl _ _).trans hsz hst.2.2, HSU.out.cur hc hst.2.1 (fun _ h => h)⟩⟩
              refine AllReadyH.cons (o := { dst := some 45, op := Op.call { callee := Callee.value (Operand.func 21), args := #[Operand.tmp 41, Operand.tmp 44], argTypes := #[29, 65] }, type := 62, pos := "law.go:72", after := #[{ on := 4, ground := Ground.data }, { on := 7, ground := Ground.data }, { on := 7, ground := Ground.chain }], guard := none }) rfl (fun K hK => ?_) AllReadyH.nil
              go_simp
              refine (HCL.out _ g hnn hgb hgl).mono ?_
              rintro e wa ⟨hua, rfl, hc⟩
              unfold UintV
              go_wp2_with fail
              have ht := ht.upd hua (fun k hk e => HSU.out.co (by rw [← e]; exact hk))
              have hn := hn.trans hua (fun k _ h => Or.inl h)
              have hsz := Nat.le_trans hsz hua.size
              refine hK.out _ _ (by first | exact hn | exact Upd.alloc hn _) (fun hn => ?_)
              clear hK K
              try simp only [Act.put, List.setIfInBounds_toArray, List.set_cons_zero, List.set_cons_succ]
              refine wpAnyH_take (i := 9) (oi := { dst := some 46, op := Op.convert 62 42 (Operand.tmp 45), type := 42, pos := "law.go:72", after := #[{ on := 8, ground := Ground.data }], guard := none }) (v := ?v34x11) rfl (by kernel_rfl) (by kernel_rfl) (by kernel_rfl) (fun _ _ _ h => h) (Or.inl ⟨by rfl, ?y34x11⟩) hn ?r34x11
              case y34x11 => (intro wS hS; (try go_simp); (try with_reducible rfl))
              try simp only [Act.put, List.setIfInBounds_toArray, List.set_cons_zero, List.set_cons_succ]
              refine wpAnyH_ready (rs := [3, 10]) (by kernel_rfl) (by simp) ?_
              refine AllReadyH.cons (o := { dst := some 40, op := Op.load 25 (Operand.tmp 39), type := 25, pos := "law.go:72", after := #[{ on := 2, ground := Ground.data }], guard := none }) rfl (fun K hK => ?_) ?_
              · skip
                have c := ht.cell.c
                go_simp
                refine hK.out _ _ (by first | exact hn | exact Upd.alloc hn _) (fun hn => ?_)
                clear hK K
                try simp only [Act.put, List.setIfInBounds_toArray, List.set_cons_zero, List.set_cons_succ]
                refine wpAnyH_ready (rs := [10]) (by kernel_rfl) (by simp) ?_
                refine AllReadyH.cons (o := { dst := some 47, op := Op.call { callee := Callee.value (Operand.func 20), args := #[Operand.tmp 46], argTypes := #[42] }, type := 9, pos := "law.go:72", after := #[{ on := 9, ground := Ground.data }, { on := 8, ground := Ground.chain }], guard := none }) rfl (fun K hK => ?_) AllReadyH.nil
                go_simp
                rw [show IntKind.u64.wrap (((val ds1 : Nat) : Int) % 4294967296) = ((val ds1 : Nat) : Int) from by have := HV.out; simp only [IntKind.wrap, IntKind.bits, IntKind.signed, Bool.false_and, Bool.false_eq_true, if_false]; omega]
                refine (number_any _ (by have := HV.out; omega) _).mono ?_
                rintro e wa ⟨rfl, hna⟩
                unfold numV
                go_wp2_with fail
                have ht := ht.new hna
                have hn := hn.thenNew hna
                have hc := hc.new hna
                have hsz := Nat.le_trans hsz hna.size
                refine hK.out _ _ (by first | exact hn | exact Upd.alloc hn _) (fun hn => ?_)
                clear hK K
                try simp only [Act.put, List.setIfInBounds_toArray, List.set_cons_zero, List.set_cons_succ]
                refine wpAnyH_ready (rs := [11]) (by kernel_rfl) (by simp) ?_
                refine AllReadyH.cons (o := { dst := some 48, op := Op.buildSlice 25 1 #[(0, Operand.tmp 47)], type := 25, pos := "law.go:72", after := #[{ on := 10, ground := Ground.data }], guard := none }) rfl (fun K hK => ?_) AllReadyH.nil
                go_simp
                refine rowTStep [numL (val ds1) 8] ?_
                intro W5 hna hrt
                have ht := ht.new hna
                have hn := hn.thenNew hna
                have hc := hc.new hna
                have hsz := Nat.le_trans hsz hna.size
                refine hK.out _ _ (by first | exact hn | exact Upd.alloc hn _) (fun hn => ?_)
                clear hK K
                try simp only [Act.put, List.setIfInBounds_toArray, List.set_cons_zero, List.set_cons_succ]
                refine wpAnyH_ready (rs := [12]) (by kernel_rfl) (by simp) ?_
                refine AllReadyH.cons (o := { dst := some 49, op := Op.call { callee := Callee.builtin Builtin.append, args := #[Operand.tmp 40, Operand.tmp 48], argTypes := #[25, 25] }, type := 25, pos := "law.go:72", after := #[{ on := 3, ground := Ground.data }, { on := 11, ground := Ground.data }, { on := 10, ground := Ground.chain }], guard := none }) rfl (fun K hK => ?_) AllReadyH.nil
                refine stepT (.tmp 40) (.tmp 48) ht.txt hrt (by have := HPL.out.2; simp at this ⊢; omega) (by kernel_rfl) rfl rfl rfl ?_
                intro v8 wb htx haa
                obtain ⟨a8, n8, c8, rfl⟩ := htx.slice
                have hst := ht.stored haa htx
                have hn0 := hn
                have hbb := ht.cell.upd haa.upd ht.apart
                have hn := hn.trans haa.upd (fun k _ h => Or.inr (Or.inr h))
                refine hK.out _ _ (by first | exact hn | exact Upd.alloc hn _) (fun hn => ?_)
                clear hK K
                try simp only [Act.put, List.setIfInBounds_toArray, List.set_cons_zero, List.set_cons_succ]
                refine wpAnyH_take (i := 13) (oi := { dst := some 50, op := Op.nilCheck (Operand.tmp 37), type := 0, pos := "law.go:72", after := #[{ on := 0, ground := Ground.data }, { on := 0, ground := Ground.phase }, { on := 1, ground := Ground.phase }, { on := 2, ground := Ground.phase }, { on := 3, ground := Ground.phase }, { on := 4, ground := Ground.phase }, { on := 5, ground := Ground.phase }, { on := 6, ground := Ground.phase }, { on := 7, ground := Ground.phase }, { on := 8, ground := Ground.phase }, { on := 9, ground := Ground.phase }, { on := 10, ground := Ground.phase }, { on := 11, ground := Ground.phase }, { on := 12, ground := Ground.phase }], guard := none }) (v := ?v34x12) rfl (by kernel_rfl) (by kernel_rfl) (by kernel_rfl) (fun _ _ _ h => h) (Or.inl ⟨by rfl, ?y34x12⟩) hn ?r34x12
                case y34x12 => (intro wS hS; (try go_simp); (try with_reducible rfl))
                try simp only [Act.put, List.setIfInBounds_toArray, List.set_cons_zero, List.set_cons_succ]
                refine wpAnyH_ready (rs := [14]) (by kernel_rfl) (by simp) ?_
                refine AllReadyH.cons (o := { dst := none, op := Op.store 25 (Operand.tmp 50) (Operand.tmp 49), type := 0, pos := "law.go:72", after := #[{ on := 13, ground := Ground.data }, { on := 12, ground := Ground.data }, { on := 12, ground := Ground.chain }, { on := 0, ground := Ground.phase }, { on := 1, ground := Ground.phase }, { on := 2, ground := Ground.phase }, { on := 3, ground := Ground.phase }, { on := 4, ground := Ground.phase }, { on := 5, ground := Ground.phase }, { on := 6, ground := Ground.phase }, { on := 7, ground := Ground.phase }, { on := 8, ground := Ground.phase }, { on := 9, ground := Ground.phase }, { on := 10, ground := Ground.phase }, { on := 11, ground := Ground.phase }, { on := 12, ground := Ground.phase }], guard := none }) rfl (fun K hK => ?_) AllReadyH.nil
                have cb := hbb.c
                have fb := hbb.f
                go_simp
                have hn := hn0.trans hst.2.1 (fun k _ h => Or.inr h)
                refine hK.out _ _ (by first | exact hn | exact Upd.alloc hn _) (fun hn => ?_)
                clear hK K
                try simp only [Act.put, List.setIfInBounds_toArray, List.set_cons_zero, List.set_cons_succ]
                refine wpAnyH_done (by kernel_rfl) ?_ _
                go_wp2_with fail
                go_meet
                exact ⟨_, _, _, ⟨HAO.out, by rw [HD.out]; decide, hn, hst.1, (Grown.refl _ _).trans hsz hst.2.2, HSU.out.cur hc hst.2.1 (fun _ h => h)⟩⟩
              refine AllReadyH.cons (o := { dst := some 47, op := Op.call { callee := Callee.value (Operand.func 20), args := #[Operand.tmp 46], argTypes := #[42] }, type := 9, pos := "law.go:72", after := #[{ on := 9, ground := Ground.data }, { on := 8, ground := Ground.chain }], guard := none }) rfl (fun K hK => ?_) AllReadyH.nil
              go_simp
              rw [show IntKind.u64.wrap (((val ds1 : Nat) : Int) % 4294967296) = ((val ds1 : Nat) : Int) from by have := HV.out; simp only [IntKind.wrap, IntKind.bits, IntKind.signed, Bool.false_and, Bool.false_eq_true, if_false]; omega]
              refine (number_any _ (by have := HV.out; omega) _).mono ?_
              rintro e wa ⟨rfl, hna⟩
              unfold numV
              go_wp2_with fail
              have ht := ht.new hna
              have hn := hn.thenNew hna
              have hc := hc.new hna
              have hsz := Nat.le_trans hsz hna.size
              refine hK.out _ _ (by first | exact hn | exact Upd.alloc hn _) (fun hn => ?_)
              clear hK K
              try simp only [Act.put, List.setIfInBounds_toArray, List.set_cons_zero, List.set_cons_succ]
              refine wpAnyH_ready (rs := [3, 11]) (by kernel_rfl) (by simp) ?_
              refine AllReadyH.cons (o := { dst := some 40, op := Op.load 25 (Operand.tmp 39), type := 25, pos := "law.go:72", after := #[{ on := 2, ground := Ground.data }], guard := none }) rfl (fun K hK => ?_) ?_
              · skip
                have c := ht.cell.c
                go_simp
                refine hK.out _ _ (by first | exact hn | exact Upd.alloc hn _) (fun hn => ?_)
                clear hK K
                try simp only [Act.put, List.setIfInBounds_toArray, List.set_cons_zero, List.set_cons_succ]
                refine wpAnyH_ready (rs := [11]) (by kernel_rfl) (by simp) ?_
                refine AllReadyH.cons (o := { dst := some 48, op := Op.buildSlice 25 1 #[(0, Operand.tmp 47)], type := 25, pos := "law.go:72", after := #[{ on := 10, ground := Ground.data }], guard := none }) rfl (fun K hK => ?_) AllReadyH.nil
                go_simp
                refine rowTStep [numL (val ds1) 8] ?_
                intro W5 hna hrt
                have ht := ht.new hna
                have hn := hn.thenNew hna
                have hc := hc.new hna
                have hsz := Nat.le_trans hsz hna.size
                refine hK.out _ _ (by first | exact hn | exact Upd.alloc hn _) (fun hn => ?_)
                clear hK K
                try simp only [Act.put, List.setIfInBounds_toArray, List.set_cons_zero, List.set_cons_succ]
                refine wpAnyH_ready (rs := [12]) (by kernel_rfl) (by simp) ?_
                refine AllReadyH.cons (o := { dst := some 49, op := Op.call { callee := Callee.builtin Builtin.append, args := #[Operand.tmp 40, Operand.tmp 48], argTypes := #[25, 25] }, type := 25, pos := "law.go:72", after := #[{ on := 3, ground := Ground.data }, { on := 11, ground := Ground.data }, { on := 10, ground := Ground.chain }], guard := none }) rfl (fun K hK => ?_) AllReadyH.nil
                refine stepT (.tmp 40) (.tmp 48) ht.txt hrt (by have := HPL.out.2; simp at this ⊢; omega) (by kernel_rfl) rfl rfl rfl ?_
                intro v8 wb htx haa
                obtain ⟨a8, n8, c8, rfl⟩ := htx.slice
                have hst := ht.stored haa htx
                have hn0 := hn
                have hbb := ht.cell.upd haa.upd ht.apart
                have hn := hn.trans haa.upd (fun k _ h => Or.inr (Or.inr h))
                refine hK.out _ _ (by first | exact hn | exact Upd.alloc hn _) (fun hn => ?_)
                clear hK K
                try simp only [Act.put, List.setIfInBounds_toArray, List.set_cons_zero, List.set_cons_succ]
                refine wpAnyH_take (i := 13) (oi := { dst := some 50, op := Op.nilCheck (Operand.tmp 37), type := 0, pos := "law.go:72", after := #[{ on := 0, ground := Ground.data }, { on := 0, ground := Ground.phase }, { on := 1, ground := Ground.phase }, { on := 2, ground := Ground.phase }, { on := 3, ground := Ground.phase }, { on := 4, ground := Ground.phase }, { on := 5, ground := Ground.phase }, { on := 6, ground := Ground.phase }, { on := 7, ground := Ground.phase }, { on := 8, ground := Ground.phase }, { on := 9, ground := Ground.phase }, { on := 10, ground := Ground.phase }, { on := 11, ground := Ground.phase }, { on := 12, ground := Ground.phase }], guard := none }) (v := ?v34x13) rfl (by kernel_rfl) (by kernel_rfl) (by kernel_rfl) (fun _ _ _ h => h) (Or.inl ⟨by rfl, ?y34x13⟩) hn ?r34x13
                case y34x13 => (intro wS hS; (try go_simp); (try with_reducible rfl))
                try simp only [Act.put, List.setIfInBounds_toArray, List.set_cons_zero, List.set_cons_succ]
                refine wpAnyH_ready (rs := [14]) (by kernel_rfl) (by simp) ?_
                refine AllReadyH.cons (o := { dst := none, op := Op.store 25 (Operand.tmp 50) (Operand.tmp 49), type := 0, pos := "law.go:72", after := #[{ on := 13, ground := Ground.data }, { on := 12, ground := Ground.data }, { on := 12, ground := Ground.chain }, { on := 0, ground := Ground.phase }, { on := 1, ground := Ground.phase }, { on := 2, ground := Ground.phase }, { on := 3, ground := Ground.phase }, { on := 4, ground := Ground.phase }, { on := 5, ground := Ground.phase }, { on := 6, ground := Ground.phase }, { on := 7, ground := Ground.phase }, { on := 8, ground := Ground.phase }, { on := 9, ground := Ground.phase }, { on := 10, ground := Ground.phase }, { on := 11, ground := Ground.phase }, { on := 12, ground := Ground.phase }], guard := none }) rfl (fun K hK => ?_) AllReadyH.nil
                have cb := hbb.c
                have fb := hbb.f
                go_simp
                have hn := hn0.trans hst.2.1 (fun k _ h => Or.inr h)
                refine hK.out _ _ (by first | exact hn | exact Upd.alloc hn _) (fun hn => ?_)
                clear hK K
                try simp only [Act.put, List.setIfInBounds_toArray, List.set_cons_zero, List.set_cons_succ]
                refine wpAnyH_done (by kernel_rfl) ?_ _
                go_wp2_with fail
                go_meet
                exact ⟨_, _, _, ⟨HAO.out, by rw [HD.out]; decide, hn, hst.1, (Grown.refl _ _).trans hsz hst.2.2, HSU.out.cur hc hst.2.1 (fun _ h => h)⟩⟩
              refine AllReadyH.cons (o := { dst := some 48, op := Op.buildSlice 25 1 #[(0, Operand.tmp 47)], type := 25, pos := "law.go:72", after := #[{ on := 10, ground := Ground.data }], guard := none }) rfl (fun K hK => ?_) AllReadyH.nil
              go_simp
              refine rowTStep [numL (val ds1) 8] ?_
              intro W5 hna hrt
              have ht := ht.new hna
              have hn := hn.thenNew hna
              have hc := hc.new hna
              have hsz := Nat.le_trans hsz hna.size
              refine hK.out _ _ (by first | exact hn | exact Upd.alloc hn _) (fun hn => ?_)
              clear hK K
              try simp only [Act.put, List.setIfInBounds_toArray, List.set_cons_zero, List.set_cons_succ]
              refine wpAnyH_ready (rs := [3]) (by kernel_rfl) (by simp) ?_
              refine AllReadyH.cons (o := { dst := some 40, op := Op.load 25 (Operand.tmp 39), type := 25, pos := "law.go:72", after := #[{ on := 2, ground := Ground.data }], guard := none }) rfl (fun K hK => ?_) AllReadyH.nil
              have c := ht.cell.c
              go_simp
              refine hK.out _ _ (by first | exact hn | exact Upd.alloc hn _) (fun hn => ?_)
              clear hK K
              try simp only [Act.put, List.setIfInBounds_toArray, List.set_cons_zero, List.set_cons_succ]
              refine wpAnyH_ready (rs := [12]) (by kernel_rfl) (by simp) ?_
              refine AllReadyH.cons (o := { dst := some 49, op := Op.call { callee := Callee.builtin Builtin.append, args := #[Operand.tmp 40, Operand.tmp 48], argTypes := #[25, 25] }, type := 25, pos := "law.go:72", after := #[{ on := 3, ground := Ground.data }, { on := 11, ground := Ground.data }, { on := 10, ground := Ground.chain }], guard := none }) rfl (fun K hK => ?_) AllReadyH.nil
              refine stepT (.tmp 40) (.tmp 48) ht.txt hrt (by have := HPL.out.2; simp at this ⊢; omega) (by kernel_rfl) rfl rfl rfl ?_
              intro v8 wb htx haa
              obtain ⟨a8, n8, c8, rfl⟩ := htx.slice
              have hst := ht.stored haa htx
              have hn0 := hn
              have hbb := ht.cell.upd haa.upd ht.apart
              have hn := hn.trans haa.upd (fun k _ h => Or.inr (Or.inr h))
              refine hK.out _ _ (by first | exact hn | exact Upd.alloc hn _) (fun hn => ?_)
              clear hK K
              try simp only [Act.put, List.setIfInBounds_toArray, List.set_cons_zero, List.set_cons_succ]
              refine wpAnyH_take (i := 13) (oi := { dst := some 50, op := Op.nilCheck (Operand.tmp 37), type := 0, pos := "law.go:72", after := #[{ on := 0, ground := Ground.data }, { on := 0, ground := Ground.phase }, { on := 1, ground := Ground.phase }, { on := 2, ground := Ground.phase }, { on := 3, ground := Ground.phase }, { on := 4, ground := Ground.phase }, { on := 5, ground := Ground.phase }, { on := 6, ground := Ground.phase }, { on := 7, ground := Ground.phase }, { on := 8, ground := Ground.phase }, { on := 9, ground := Ground.phase }, { on := 10, ground := Ground.phase }, { on := 11, ground := Ground.phase }, { on := 12, ground := Ground.phase }], guard := none }) (v := ?v34x14) rfl (by kernel_rfl) (by kernel_rfl) (by kernel_rfl) (fun _ _ _ h => h) (Or.inl ⟨by rfl, ?y34x14⟩) hn ?r34x14
              case y34x14 => (intro wS hS; (try go_simp); (try with_reducible rfl))
              try simp only [Act.put, List.setIfInBounds_toArray, List.set_cons_zero, List.set_cons_succ]
              refine wpAnyH_ready (rs := [14]) (by kernel_rfl) (by simp) ?_
              refine AllReadyH.cons (o := { dst := none, op := Op.store 25 (Operand.tmp 50) (Operand.tmp 49), type := 0, pos := "law.go:72", after := #[{ on := 13, ground := Ground.data }, { on := 12, ground := Ground.data }, { on := 12, ground := Ground.chain }, { on := 0, ground := Ground.phase }, { on := 1, ground := Ground.phase }, { on := 2, ground := Ground.phase }, { on := 3, ground := Ground.phase }, { on := 4, ground := Ground.phase }, { on := 5, ground := Ground.phase }, { on := 6, ground := Ground.phase }, { on := 7, ground := Ground.phase }, { on := 8, ground := Ground.phase }, { on := 9, ground := Ground.phase }, { on := 10, ground := Ground.phase }, { on := 11, ground := Ground.phase }, { on := 12, ground := Ground.phase }], guard := none }) rfl (fun K hK => ?_) AllReadyH.nil
              have cb := hbb.c
              have fb := hbb.f
              go_simp
              have hn := hn0.trans hst.2.1 (fun k _ h => Or.inr h)
              refine hK.out _ _ (by first | exact hn | exact Upd.alloc hn _) (fun hn => ?_)
              clear hK K
              try simp only [Act.put, List.setIfInBounds_toArray, List.set_cons_zero, List.set_cons_succ]
              refine wpAnyH_done (by kernel_rfl) ?_ _
              go_wp2_with fail
              go_meet
              exact ⟨_, _, _, ⟨HAO.out, by rw [HD.out]; decide, hn, hst.1, (Grown.refl _ _).trans hsz hst.2.2, HSU.out.cur hc hst.2.1 (fun _ h => h)⟩⟩
          · have hsn := HFA.out.sign HD.out
            obtain ⟨n', hnn'⟩ : ∃ n' : Nat, a.n = n' := ⟨a.n.toNat, by omega⟩
            have HN1 : Hid (1 ≤ n') := by show _ ≤ _; omega
            have HN2 : Hid (n' ≤ 64) := by show _ ≤ _; omega
            have HNT : Hid (a.n.toNat = n') := by show _ = _; omega
            have HNI := hid hnn'
            have E1 : Hid (∀ W, Upd (SS C Bo u) w4 W → W.cell? ⟨wr.heap.size, 1, none⟩ = some (.int .i64 n')) := fun W hW => by rw [← HNI.out]; exact CELL.out _ hW 1 _ rfl
            clear hsn hnn'
            have HCL : Hid (∀ W, New w4 W → Calls Try.prog 23 #[.pointer (some ⟨C, 0, none⟩), .int .i64 n', .agg #[.int .i64 a.x.b1, .int .i64 a.x.b2]] W (Got C vb bs lim SintV (sintO bs lim (fun r => hasR a.x.b1 a.x.b2 r) n' q) W)) := fun W hW => by
              have := Sint_any (HQ.out.new hW) HIQ.out n' HN1.out HN2.out a.x.b1 a.x.b2
              rw [sintO_congr HIQ.out (fun r h0 h1 => has_hasR HFA.out.beh h0 h1)] at this
              exact this
            obtain ⟨x, hx⟩ : ∃ x, sintO bs lim (fun r => hasR a.x.b1 a.x.b2 r) n' q = x := ⟨_, rfl⟩
            have HAO : Hid (askO bs lim a q = x.bind fun ds q => .ok (numL (sval ds % 18446744073709551616).toNat 8) q) := by
              show _ = _
              unfold askO
              rw [HD.out, if_neg (by decide), if_neg (by decide), if_pos rfl, HNT.out]
              rw [hx]
            rw [hx] at HCL
            go_wp2_with fail
            cases x with
            | up q' er =>
              have HGONE : Hid (∀ wd, New w4 wd → ∀ wa, Upd (· = C) wd wa → Cur wa C vb bs q' lim er → Did C vb bs lim O.2 wa (.panicked [{ v := gave C, recovered := false }]) ∧ Upd (SS C Bo u0) w wa ∧ ∃ u', Outs wa Bo u' (ds ++ O.1) ∧ Grown w u0 u') := by
                intro wd hnd wa hua hca
                obtain ⟨t, ht, -⟩ := HRT.out
                have h1 := IR.out.ho1
                have h2 := IR.out.ho2
                rw [ht, allO_up (by rw [HD.out]; decide) HAO.out] at h1 h2
                have hup : Upd (SS C Bo u) w4 wa := (New.upd hnd).trans hua (fun k _ h => Or.inl h)
                refine ⟨?_, ?_, u, ?_, (Grown.refl _ _).trans HN3.out.size IR.out.gr⟩
                · rw [h2]; exact ⟨rfl, hca⟩
                · exact ss_grow (U0.out.thenNew HN4.out) ((Grown.refl _ _).trans HN3.out.size IR.out.gr) hup
                · rw [h1, List.append_nil]; exact (HT.out.new hnd).upd hua (fun k hk e => HSU.out.co (by rw [← e]; exact hk))
              clear hx
              have hnn : New w4 w4.drew := (Upd.refl _ _).drew
              have hn : Upd (SS C Bo u) w4 w4.drew := (Upd.refl _ _).drew
              have hsz : w4.heap.size ≤ w4.drew.heap.size := Nat.le_refl _
              have ht := HT.out.new hnn
              refine wp_region_held_drew (S := (Upd (SS C Bo u) w4)) (by kernel_rfl) (by first | exact hn | exact (Upd.refl _ _).drew | exact Upd.drew (by assumption)) (fun hn => ?_)
              generalize w4.drew = wd at *
              refine wpAnyH_take (i := 0) (oi := { dst := some 53, op := Op.load 31 (Operand.tmp 5), type := 31, pos := "law.go:74", after := #[], guard := none }) (v := ?v35x1) rfl (by kernel_rfl) (by kernel_rfl) (by kernel_rfl) (fun _ _ _ h => h) (Or.inl ⟨by rfl, ?y35x1⟩) hn ?r35x1
              case y35x1 => (intro wS hS; have c := E5.out _ hS; (try go_simp); (try with_reducible rfl))
              try simp only [Act.put, List.setIfInBounds_toArray, List.set_cons_zero, List.set_cons_succ]
              refine wpAnyH_take (i := 1) (oi := { dst := some 54, op := Op.load 31 (Operand.tmp 5), type := 31, pos := "law.go:74", after := #[], guard := none }) (v := ?v35x2) rfl (by kernel_rfl) (by kernel_rfl) (by kernel_rfl) (fun _ _ _ h => h) (Or.inl ⟨by rfl, ?y35x2⟩) hn ?r35x2
              case y35x2 => (intro wS hS; have c := E5.out _ hS; (try go_simp); (try with_reducible rfl))
              try simp only [Act.put, List.setIfInBounds_toArray, List.set_cons_zero, List.set_cons_succ]
              refine wpAnyH_take (i := 2) (oi := { dst := some 55, op := Op.nilCheck (Operand.tmp 54), type := 0, pos := "law.go:74", after := #[{ on := 1, ground := Ground.data }], guard := none }) (v := ?v35x3) rfl (by kernel_rfl) (by kernel_rfl) (by kernel_rfl) (fun _ _ _ h => h) (Or.inl ⟨by rfl, ?y35x3⟩) hn ?r35x3
              case y35x3 => (intro wS hS; (try go_simp); (try with_reducible rfl))
              try simp only [Act.put, List.setIfInBounds_toArray, List.set_cons_zero, List.set_cons_succ]
              refine wpAnyH_take (i := 4) (oi := { dst := some 57, op := Op.load 29 (Operand.tmp 3), type := 29, pos := "law.go:74", after := #[], guard := none }) (v := ?v35x4) rfl (by kernel_rfl) (by kernel_rfl) (by kernel_rfl) (fun _ _ _ h => h) (Or.inl ⟨by rfl, ?y35x4⟩) hn ?r35x4
              case y35x4 => (intro wS hS; have c := E3.out _ hS; (try go_simp); (try with_reducible rfl))
              try simp only [Act.put, List.setIfInBounds_toArray, List.set_cons_zero, List.set_cons_succ]
              refine wpAnyH_take (i := 5) (oi := { dst := some 58, op := Op.fieldAddr 49 (Operand.tmp 7) 1, type := 0, pos := "law.go:74", after := #[], guard := none }) (v := ?v35x5) rfl (by kernel_rfl) (by kernel_rfl) (by kernel_rfl) (fun _ _ _ h => h) (Or.inl ⟨by rfl, ?y35x5⟩) hn ?r35x5
              case y35x5 => (intro wS hS; (try go_simp); (try with_reducible rfl))
              try simp only [Act.put, List.setIfInBounds_toArray, List.set_cons_zero, List.set_cons_succ]
              refine wpAnyH_take (i := 6) (oi := { dst := some 59, op := Op.load 3 (Operand.tmp 58), type := 3, pos := "law.go:74", after := #[{ on := 5, ground := Ground.data }], guard := none }) (v := ?v35x6) rfl (by kernel_rfl) (by kernel_rfl) (by kernel_rfl) (fun _ _ _ h => h) (Or.inl ⟨by rfl, ?y35x6⟩) hn ?r35x6
              case y35x6 => (intro wS hS; have c := E1.out _ hS; (try go_simp); (try with_reducible rfl))
              try simp only [Act.put, List.setIfInBounds_toArray, List.set_cons_zero, List.set_cons_succ]
              refine wpAnyH_take (i := 7) (oi := { dst := some 60, op := Op.fieldAddr 49 (Operand.tmp 7) 4, type := 0, pos := "law.go:74", after := #[], guard := none }) (v := ?v35x7) rfl (by kernel_rfl) (by kernel_rfl) (by kernel_rfl) (fun _ _ _ h => h) (Or.inl ⟨by rfl, ?y35x7⟩) hn ?r35x7
              case y35x7 => (intro wS hS; (try go_simp); (try with_reducible rfl))
              try simp only [Act.put, List.setIfInBounds_toArray, List.set_cons_zero, List.set_cons_succ]
              refine wpAnyH_take (i := 8) (oi := { dst := some 61, op := Op.fieldAddr 47 (Operand.tmp 60) 5, type := 0, pos := "law.go:74", after := #[{ on := 7, ground := Ground.data }], guard := none }) (v := ?v35x8) rfl (by kernel_rfl) (by kernel_rfl) (by kernel_rfl) (fun _ _ _ h => h) (Or.inl ⟨by rfl, ?y35x8⟩) hn ?r35x8
              case y35x8 => (intro wS hS; (try go_simp); (try with_reducible rfl))
              try simp only [Act.put, List.setIfInBounds_toArray, List.set_cons_zero, List.set_cons_succ]
              refine wpAnyH_take (i := 9) (oi := { dst := some 62, op := Op.load 44 (Operand.tmp 61), type := 44, pos := "law.go:74", after := #[{ on := 8, ground := Ground.data }], guard := none }) (v := ?v35x9) rfl (by kernel_rfl) (by kernel_rfl) (by kernel_rfl) (fun _ _ _ h => h) (Or.inl ⟨by rfl, ?y35x9⟩) hn ?r35x9
              case y35x9 => (intro wS hS; have c11 := CELL.out _ hS 11 _ rfl ; have c12 := CELL.out _ hS 12 _ rfl; (try go_simp); (try with_reducible rfl))
              try simp only [Act.put, List.setIfInBounds_toArray, List.set_cons_zero, List.set_cons_succ]
              refine wpAnyH_ready (rs := [3, 10]) (by kernel_rfl) (by simp) ?_
              refine AllReadyH.cons (o := { dst := some 56, op := Op.load 25 (Operand.tmp 55), type := 25, pos := "law.go:74", after := #[{ on := 2, ground := Ground.data }], guard := none }) rfl (fun K hK => ?_) ?_
              · skip
                have c := ht.cell.c
                go_simp
                refine hK.out _ _ (by first | exact hn | exact Upd.alloc hn _) (fun hn => ?_)
                clear hK K
                try simp only [Act.put, List.setIfInBounds_toArray, List.set_cons_zero, List.set_cons_succ]
                refine wpAnyH_ready (rs := [10]) (by kernel_rfl) (by simp) ?_
                refine AllReadyH.cons (o := { dst := some 63, op := Op.call { callee := Callee.value (Operand.func 24), args := #[Operand.tmp 62], argTypes := #[44] }, type := 68, pos := "law.go:74", after := #[{ on := 9, ground := Ground.data }], guard := none }) rfl (fun K hK => ?_) AllReadyH.nil
                go_simp
                refine (own_any _ _ _).mono ?_
                rintro e wa ⟨rfl, hna⟩
                go_wp2_with fail
                have ht := ht.new hna
                have hn := hn.thenNew hna
                have hnn := New.trans hnn hna
                have hsz := Nat.le_trans hsz hna.size
                refine hK.out _ _ (by first | exact hn | exact Upd.alloc hn _) (fun hn => ?_)
                clear hK K
                try simp only [Act.put, List.setIfInBounds_toArray, List.set_cons_zero, List.set_cons_succ]
                refine wpAnyH_ready (rs := [11]) (by kernel_rfl) (by simp) ?_
                refine AllReadyH.cons (o := { dst := some 64, op := Op.call { callee := Callee.value (Operand.func 23), args := #[Operand.tmp 57, Operand.tmp 59, Operand.tmp 63], argTypes := #[29, 3, 68] }, type := 2, pos := "law.go:74", after := #[{ on := 4, ground := Ground.data }, { on := 6, ground := Ground.data }, { on := 10, ground := Ground.data }, { on := 10, ground := Ground.chain }], guard := none }) rfl (fun K hK => ?_) AllReadyH.nil
                go_simp
                refine (HCL.out _ hnn).mono ?_
                rintro e wa ⟨hua, rfl, hca⟩
                go_wp2_with fail
                have hg := HGONE.out _ hnn wa hua hca
                exact ⟨rfl, hg.2.1, hg.1, hg.2.2⟩
              refine AllReadyH.cons (o := { dst := some 63, op := Op.call { callee := Callee.value (Operand.func 24), args := #[Operand.tmp 62], argTypes := #[44] }, type := 68, pos := "law.go:74", after := #[{ on := 9, ground := Ground.data }], guard := none }) rfl (fun K hK => ?_) AllReadyH.nil
              go_simp
              refine (own_any _ _ _).mono ?_
              rintro e wa ⟨rfl, hna⟩
              go_wp2_with fail
              have ht := ht.new hna
              have hn := hn.thenNew hna
              have hnn := New.trans hnn hna
              have hsz := Nat.le_trans hsz hna.size
              refine hK.out _ _ (by first | exact hn | exact Upd.alloc hn _) (fun hn => ?_)
              clear hK K
              try simp only [Act.put, List.setIfInBounds_toArray, List.set_cons_zero, List.set_cons_succ]
              refine wpAnyH_ready (rs := [3, 11]) (by kernel_rfl) (by simp) ?_
              refine AllReadyH.cons (o := { dst := some 56, op := Op.load 25 (Operand.tmp 55), type := 25, pos := "law.go:74", after := #[{ on := 2, ground := Ground.data }], guard := none }) rfl (fun K hK => ?_) ?_
              · skip
                have c := ht.cell.c
                go_simp
                refine hK.out _ _ (by first | exact hn | exact Upd.alloc hn _) (fun hn => ?_)
                clear hK K
                try simp only [Act.put, List.setIfInBounds_toArray, List.set_cons_zero, List.set_cons_succ]
                refine wpAnyH_ready (rs := [11]) (by kernel_rfl) (by simp) ?_
                refine AllReadyH.cons (o := { dst := some 64, op := Op.call { callee := Callee.value (Operand.func 23), args := #[Operand.tmp 57, Operand.tmp 59, Operand.tmp 63], argTypes := #[29, 3, 68] }, type := 2, pos := "law.go:74", after := #[{ on := 4, ground := Ground.data }, { on := 6, ground := Ground.data }, { on := 10, ground := Ground.data }, { on := 10, ground := Ground.chain }], guard := none }) rfl (fun K hK => ?_) AllReadyH.nil
                go_simp
                refine (HCL.out _ hnn).mono ?_
                rintro e wa ⟨hua, rfl, hca⟩
                go_wp2_with fail
                have hg := HGONE.out _ hnn wa hua hca
                exact ⟨rfl, hg.2.1, hg.1, hg.2.2⟩
              refine AllReadyH.cons (o := { dst := some 64, op := Op.call { callee := Callee.value (Operand.func 23), args := #[Operand.tmp 57, Operand.tmp 59, Operand.tmp 63], argTypes := #[29, 3, 68] }, type := 2, pos := "law.go:74", after := #[{ on := 4, ground := Ground.data }, { on := 6, ground := Ground.data }, { on := 10, ground := Ground.data }, { on := 10, ground := Ground.chain }], guard := none }) rfl (fun K hK => ?_) AllReadyH.nil
              go_simp
              refine (HCL.out _ hnn).mono ?_
              rintro e wa ⟨hua, rfl, hca⟩
              go_wp2_with fail
              have hg := HGONE.out _ hnn wa hua hca
              exact ⟨rfl, hg.2.1, hg.1, hg.2.2⟩
            | ok ds1 q' =>
              clear hx
              have hnn : New w4 w4.drew := (Upd.refl _ _).drew
              have hn : Upd (SS C Bo u) w4 w4.drew := (Upd.refl _ _).drew
              have hsz : w4.heap.size ≤ w4.drew.heap.size := Nat.le_refl _
              have ht := HT.out.new hnn
              refine wp_region_held_drew (S := (Upd (SS C Bo u) w4)) (by kernel_rfl) (by first | exact hn | exact (Upd.refl _ _).drew | exact Upd.drew (by assumption)) (fun hn => ?_)
              generalize w4.drew = wd at *
              refine wpAnyH_take (i := 0) (oi := { dst := some 53, op := Op.load 31 (Operand.tmp 5), type := 31, pos := "law.go:74", after := #[], guard := none }) (v := ?v36x1) rfl (by kernel_rfl) (by kernel_rfl) (by kernel_rfl) (fun _ _ _ h => h) (Or.inl ⟨by rfl, ?y36x1⟩) hn ?r36x1
              case y36x1 => (intro wS hS; have c := E5.out _ hS; (try go_simp); (try with_reducible rfl))
              try simp only [Act.put, List.setIfInBounds_toArray, List.set_cons_zero, List.set_cons_succ]
              refine wpAnyH_take (i := 1) (oi := { dst := some 54, op := Op.load 31 (Operand.tmp 5), type := 31, pos := "law.go:74", after := #[], guard := none }) (v := ?v36x2) rfl (by kernel_rfl) (by kernel_rfl) (by kernel_rfl) (fun _ _ _ h => h) (Or.inl ⟨by rfl, ?y36x2⟩) hn ?r36x2
              case y36x2 => (intro wS hS; have c := E5.out _ hS; (try go_simp); (try with_reducible rfl))
              try simp only [Act.put, List.setIfInBounds_toArray, List.set_cons_zero, List.set_cons_succ]
              refine wpAnyH_take (i := 2) (oi := { dst := some 55, op := Op.nilCheck (Operand.tmp 54), type := 0, pos := "law.go:74", after := #[{ on := 1, ground := Ground.data }], guard := none }) (v := ?v36x3) rfl (by kernel_rfl) (by kernel_rfl) (by kernel_rfl) (fun _ _ _ h => h) (Or.inl ⟨by rfl, ?y36x3⟩) hn ?r36x3
              case y36x3 => (intro wS hS; (try go_simp); (try with_reducible rfl))
              try simp only [Act.put, List.setIfInBounds_toArray, List.set_cons_zero, List.set_cons_succ]
              refine wpAnyH_take (i := 4) (oi := { dst := some 57, op := Op.load 29 (Operand.tmp 3), type := 29, pos := "law.go:74", after := #[], guard := none }) (v := ?v36x4) rfl (by kernel_rfl) (by kernel_rfl) (by kernel_rfl) (fun _ _ _ h => h) (Or.inl ⟨by rfl, ?y36x4⟩) hn ?r36x4
              case y36x4 => (intro wS hS; have c := E3.out _ hS; (try go_simp); (try with_reducible rfl))
              try simp only [Act.put, List.setIfInBounds_toArray, List.set_cons_zero, List.set_cons_succ]
              refine wpAnyH_take (i := 5) (oi := { dst := some 58, op := Op.fieldAddr 49 (Operand.tmp 7) 1, type := 0, pos := "law.go:74", after := #[], guard := none }) (v := ?v36x5) rfl (by kernel_rfl) (by kernel_rfl) (by kernel_rfl) (fun _ _ _ h => h) (Or.inl ⟨by rfl, ?y36x5⟩) hn ?r36x5
              case y36x5 => (intro wS hS; (try go_simp); (try with_reducible rfl))
              try simp only [Act.put, List.setIfInBounds_toArray, List.set_cons_zero, List.set_cons_succ]
              refine wpAnyH_take (i := 6) (oi := { dst := some 59, op := Op.load 3 (Operand.tmp 58), type := 3, pos := "law.go:74", after := #[{ on := 5, ground := Ground.data }], guard := none }) (v := ?v36x6) rfl (by kernel_rfl) (by kernel_rfl) (by kernel_rfl) (fun _ _ _ h => h) (Or.inl ⟨by rfl, ?y36x6⟩) hn ?r36x6
              case y36x6 => (intro wS hS; have c := E1.out _ hS; (try go_simp); (try with_reducible rfl))
              try simp only [Act.put, List.setIfInBounds_toArray, List.set_cons_zero, List.set_cons_succ]
              refine wpAnyH_take (i := 7) (oi := { dst := some 60, op := Op.fieldAddr 49 (Operand.tmp 7) 4, type := 0, pos := "law.go:74", after := #[], guard := none }) (v := ?v36x7) rfl (by kernel_rfl) (by kernel_rfl) (by kernel_rfl) (fun _ _ _ h => h) (Or.inl ⟨by rfl, ?y36x7⟩) hn ?r36x7
              case y36x7 => (intro wS hS; (try go_simp); (try with_reducible rfl))
              try simp only [Act.put, List.setIfInBounds_toArray, List.set_cons_zero, List.set_cons_succ]
              refine wpAnyH_take (i := 8) (oi := { dst := some 61, op := Op.fieldAddr 47 (Operand.tmp 60) 5, type := 0, pos := "law.go:74", after := #[{ on := 7, ground := Ground.data }], guard := none }) (v := ?v36x8) rfl (by kernel_rfl) (by kernel_rfl) (by kernel_rfl) (fun _ _ _ h => h) (Or.inl ⟨by rfl, ?y36x8⟩) hn ?r36x8
              case y36x8 => (intro wS hS; (try go_simp); (try with_reducible rfl))
              try simp only [Act.put, List.setIfInBounds_toArray, List.set_cons_zero, List.set_cons_succ]
              refine wpAnyH_take (i := 9) (oi := { dst := some 62, op := Op.load 44 (Operand.tmp 61), type := 44, pos := "law.go:74", after := #[{ on := 8, ground := Ground.data }], guard := none }) (v := ?v36x9) rfl (by kernel_rfl) (by kernel_rfl) (by kernel_rfl) (fun _ _ _ h => h) (Or.inl ⟨by rfl, ?y36x9⟩) hn ?r36x9
              case y36x9 => (intro wS hS; have c11 := CELL.out _ hS 11 _ rfl ; have c12 := CELL.out _ hS 12 _ rfl; (try go_simp); (try with_reducible rfl))
              try simp only [Act.put, List.setIfInBounds_toArray, List.set_cons_zero, List.set_cons_succ]
              refine wpAnyH_ready (rs := [3, 10]) (by kernel_rfl) (by simp) ?_
              refine AllReadyH.cons (o := { dst := some 56, op := Op.load 25 (Operand.tmp 55), type := 25, pos := "law.go:74", after := #[{ on := 2, ground := Ground.data }], guard := none }) rfl (fun K hK => ?_) ?_
              · skip
                have c := ht.cell.c
                go_simp
                refine hK.out _ _ (by first | exact hn | exact Upd.alloc hn _) (fun hn => ?_)
                clear hK K
                try simp only [Act.put, List.setIfInBounds_toArray, List.set_cons_zero, List.set_cons_succ]
                refine wpAnyH_ready (rs := [10]) (by kernel_rfl) (by simp) ?_
                refine AllReadyH.cons (o := { dst := some 63, op := Op.call { callee := Callee.value (Operand.func 24), args := #[Operand.tmp 62], argTypes := #[44] }, type := 68, pos := "law.go:74", after := #[{ on := 9, ground := Ground.data }], guard := none }) rfl (fun K hK => ?_) AllReadyH.nil
                go_simp
                refine (own_any _ _ _).mono ?_
                rintro e wa ⟨rfl, hna⟩
                go_wp2_with fail
                have ht := ht.new hna
                have hn := hn.thenNew hna
                have hnn := New.trans hnn hna
                have hsz := Nat.le_trans hsz hna.size
                refine hK.out _ _ (by first | exact hn | exact Upd.alloc hn _) (fun hn => ?_)
                clear hK K
                try simp only [Act.put, List.setIfInBounds_toArray, List.set_cons_zero, List.set_cons_succ]
                refine wpAnyH_ready (rs := [11]) (by kernel_rfl) (by simp) ?_
                refine AllReadyH.cons (o := { dst := some 64, op := Op.call { callee := Callee.value (Operand.func 23), args := #[Operand.tmp 57, Operand.tmp 59, Operand.tmp 63], argTypes := #[29, 3, 68] }, type := 2, pos := "law.go:74", after := #[{ on := 4, ground := Ground.data }, { on := 6, ground := Ground.data }, { on := 10, ground := Ground.data }, { on := 10, ground := Ground.chain }], guard := none }) rfl (fun K hK => ?_) AllReadyH.nil
                go_simp
                refine (HCL.out _ hnn).mono ?_
                rintro e wa ⟨hua, rfl, hc⟩
                unfold SintV
                go_wp2_with fail
                have ht := ht.upd hua (fun k hk e => HSU.out.co (by rw [← e]; exact hk))
                have hn := hn.trans hua (fun k _ h => Or.inl h)
                have hsz := Nat.le_trans hsz hua.size
                refine hK.out _ _ (by first | exact hn | exact Upd.alloc hn _) (fun hn => ?_)
                clear hK K
                try simp only [Act.put, List.setIfInBounds_toArray, List.set_cons_zero, List.set_cons_succ]
                refine wpAnyH_take (i := 12) (oi := { dst := some 65, op := Op.convert 2 42 (Operand.tmp 64), type := 42, pos := "law.go:74", after := #[{ on := 11, ground := Ground.data }], guard := none }) (v := ?v36x10) rfl (by kernel_rfl) (by kernel_rfl) (by kernel_rfl) (fun _ _ _ h => h) (Or.inl ⟨by rfl, ?y36x10⟩) hn ?r36x10
                case y36x10 => (intro wS hS; (try go_simp); (try with_reducible rfl))
                try simp only [Act.put, List.setIfInBounds_toArray, List.set_cons_zero, List.set_cons_succ]
                refine wpAnyH_ready (rs := [13]) (by kernel_rfl) (by simp) ?_
                refine AllReadyH.cons (o := { dst := some 66, op := Op.call { callee := Callee.value (Operand.func 20), args := #[Operand.tmp 65], argTypes := #[42] }, type := 9, pos := "law.go:74", after := #[{ on := 12, ground := Ground.data }, { on := 11, ground := Ground.chain }], guard := none }) rfl (fun K hK => ?_) AllReadyH.nil
                go_simp
                rw [show IntKind.u64.wrap (sval ds1) = ((sval ds1 % 18446744073709551616).toNat : Int) from by simp only [IntKind.wrap, IntKind.bits, IntKind.signed, Bool.false_and, Bool.false_eq_true, if_false]; omega]
                refine (number_any _ (by omega) _).mono ?_
                rintro e wa ⟨rfl, hna⟩
                unfold numV
                go_wp2_with fail
                have ht := ht.new hna
                have hn := hn.thenNew hna
                have hc := hc.new hna
                have hsz := Nat.le_trans hsz hna.size
                refine hK.out _ _ (by first | exact hn | exact Upd.alloc hn _) (fun hn => ?_)
                clear hK K
                try simp only [Act.put, List.setIfInBounds_toArray, List.set_cons_zero, List.set_cons_succ]
                refine wpAnyH_ready (rs := [14]) (by kernel_rfl) (by simp) ?_
                refine AllReadyH.cons (o := { dst := some 67, op := Op.buildSlice 25 1 #[(0, Operand.tmp 66)], type := 25, pos := "law.go:74", after := #[{ on := 13, ground := Ground.data }], guard := none }) rfl (fun K hK => ?_) AllReadyH.nil
                go_simp
                refine rowTStep [numL (sval ds1 % 18446744073709551616).toNat 8] ?_
                intro W5 hna hrt
                have ht := ht.new hna
                have hn := hn.thenNew hna
                have hc := hc.new hna
                have hsz := Nat.le_trans hsz hna.size
                refine hK.out _ _ (by first | exact hn | exact Upd.alloc hn _) (fun hn => ?_)
                clear hK K
                try simp only [Act.put, List.setIfInBounds_toArray, List.set_cons_zero, List.set_cons_succ]
                refine wpAnyH_ready (rs := [15]) (by kernel_rfl) (by simp) ?_
                refine AllReadyH.cons (o := { dst := some 68, op := Op.call { callee := Callee.builtin Builtin.append, args := #[Operand.tmp 56, Operand.tmp 67], argTypes := #[25, 25] }, type := 25, pos := "law.go:74", after := #[{ on := 3, ground := Ground.data }, { on := 14, ground := Ground.data }, { on := 13, ground := Ground.chain }], guard := none }) rfl (fun K hK => ?_) AllReadyH.nil
                refine stepT (.tmp 56) (.tmp 67) ht.txt hrt (by have := HPL.out.2; simp at this ⊢; omega) (by kernel_rfl) rfl rfl rfl ?_
                intro v8 wb htx haa
                obtain ⟨a8, n8, c8, rfl⟩ := htx.slice
                have hst := ht.stored haa htx
                have hn0 := hn
                have hbb := ht.cell.upd haa.upd ht.apart
                have hn := hn.trans haa.upd (fun k _ h => Or.inr (Or.inr h))
                refine hK.out _ _ (by first | exact hn | exact Upd.alloc hn _) (fun hn => ?_)
                clear hK K
                try simp only [Act.put, List.setIfInBounds_toArray, List.set_cons_zero, List.set_cons_succ]
                refine wpAnyH_take (i := 16) (oi := { dst := some 69, op := Op.nilCheck (Operand.tmp 53), type := 0, pos := "law.go:74", after := #[{ on := 0, ground := Ground.data }, { on := 0, ground := Ground.phase }, { on := 1, ground := Ground.phase }, { on := 2, ground := Ground.phase }, { on := 3, ground := Ground.phase }, { on := 4, ground := Ground.phase }, { on := 5, ground := Ground.phase }, { on := 6, ground := Ground.phase }, { on := 7, ground := Ground.phase }, { on := 8, ground := Ground.phase }, { on := 9, ground := Ground.phase }, { on := 10, ground := Ground.phase }, { on := 11, ground := Ground.phase }, { on := 12, ground := Ground.phase }, { on := 13, ground := Ground.phase }, { on := 14, ground := Ground.phase }, { on := 15, ground := Ground.phase }], guard := none }) (v := ?v36x11) rfl (by kernel_rfl) (by kernel_rfl) (by kernel_rfl) (fun _ _ _ h => h) (Or.inl ⟨by rfl, ?y36x11⟩) hn ?r36x11
                case y36x11 => (intro wS hS; (try go_simp); (try with_reducible rfl))
                try simp only [Act.put, List.setIfInBounds_toArray, List.set_cons_zero, List.set_cons_succ]
                refine wpAnyH_ready (rs := [17]) (by kernel_rfl) (by simp) ?_
                refine AllReadyH.cons (o := { dst := none, op := Op.store 25 (Operand.tmp 69) (Operand.tmp 68), type := 0, pos := "law.go:74", after := #[{ on := 16, ground := Ground.data }, { on := 15, ground := Ground.data }, { on := 15, ground := Ground.chain }, { on := 0, ground := Ground.phase }, { on := 1, ground := Ground.phase }, { on := 2, ground := Ground.phase }, { on := 3, ground := Ground.phase }, { on := 4, ground := Ground.phase }, { on := 5, ground := Ground.phase }, { on := 6, ground := Ground.phase }, { on := 7, ground := Ground.phase }, { on := 8, ground := Ground.phase }, { on := 9, ground := Ground.phase }, { on := 10, ground := Ground.phase }, { on := 11, ground := Ground.phase }, { on := 12, ground := Ground.phase }, { on := 13, ground := Ground.phase }, { on := 14, ground := Ground.phase }, { on := 15, ground := Ground.phase }], guard := none }) rfl (fun K hK => ?_) AllReadyH.nil
                have cb := hbb.c
                have fb := hbb.f
                go_simp
                have hn := hn0.trans hst.2.1 (fun k _ h => Or.inr h)
                refine hK.out _ _ (by first | exact hn | exact Upd.alloc hn _) (fun hn => ?_)
                clear hK K
                try simp only [Act.put, List.setIfInBounds_toArray, List.set_cons_zero, List.set_cons_succ]
                refine wpAnyH_done (by kernel_rfl) ?_ _
                go_wp2_with fail
                go_meet
                exact ⟨_, _, _, ⟨HAO.out, by rw [HD.out]; decide, hn, hst.1, (Grown.refl _ _).trans hsz hst.2.2, HSU.out.cur hc hst.2.1 (fun _ h => h)⟩⟩
              refine AllReadyH.cons (o := { dst := some 63, op := Op.call { callee := Callee.value (Operand.func 24), args := #[Operand.tmp 62], argTypes := #[44] }, type := 68, pos := "law.go:74", after := #[{ on := 9, ground := Ground.data }], guard := none }) rfl (fun K hK => ?_) AllReadyH.nil
              go_simp
              refine (own_any _ _ _).mono ?_
              rintro e wa ⟨rfl, hna⟩
              go_wp2_with fail
              have ht := ht.new hna
              have hn := hn.thenNew hna
              have hnn := New.trans hnn hna
              have hsz := Nat.le_trans hsz hna.size
              refine hK.out _ _ (by first | exact hn | exact Upd.alloc hn _) (fun hn => ?_)
              clear hK K
              try simp only [Act.put, List.setIfInBounds_toArray, List.set_cons_zero, List.set_cons_succ]
              refine wpAnyH_ready (rs := [3, 11]) (by kernel_rfl) (by simp) ?_
              refine AllReadyH.cons (o := { dst := some 56, op := Op.load 25 (Operand.tmp 55), type := 25, pos := "law.go:74", after := #[{ on := 2, ground := Ground.data }], guard := none }) rfl (fun K hK => ?_) ?_
              · skip
                have c := ht.cell.c
                go_simp
                refine hK.out _ _ (by first | exact hn | exact Upd.alloc hn _) (fun hn => ?_)
                clear hK K
                try simp only [Act.put, List.setIfInBounds_toArray, List.set_cons_zero, List.set_cons_succ]
                refine wpAnyH_ready (rs := [11]) (by kernel_rfl) (by simp) ?_
                refine AllReadyH.cons (o := { dst := some 64, op := Op.call { callee := Callee.value (Operand.func 23), args := #[Operand.tmp 57, Operand.tmp 59, Operand.tmp 63], argTypes := #[29, 3, 68] }, type := 2, pos := "law.go:74", after := #[{ on := 4, ground := Ground.data }, { on := 6, ground := Ground.data }, { on := 10, ground := Ground.data }, { on := 10, ground := Ground.chain }], guard := none }) rfl (fun K hK => ?_) AllReadyH.nil
                go_simp
                refine (HCL.out _ hnn).mono ?_
                rintro e wa ⟨hua, rfl, hc⟩
                unfold SintV
                go_wp2_with fail
                have ht := ht.upd hua (fun k hk e => HSU.out.co (by rw [← e]; exact hk))
                have hn := hn.trans hua (fun k _ h => Or.inl h)
                have hsz := Nat.le_trans hsz hua.size
                refine hK.out _ _ (by first | exact hn | exact Upd.alloc hn _) (fun hn => ?_)
                clear hK K
                try simp only [Act.put, List.setIfInBounds_toArray, List.set_cons_zero, List.set_cons_succ]
                refine wpAnyH_take (i := 12) (oi := { dst := some 65, op := Op.convert 2 42 (Operand.tmp 64), type := 42, pos := "law.go:74", after := #[{ on := 11, ground := Ground.data }], guard := none }) (v := ?v36x12) rfl (by kernel_rfl) (by kernel_rfl) (by kernel_rfl) (fun _ _ _ h => h) (Or.inl ⟨by rfl, ?y36x12⟩) hn ?r36x12
                case y36x12 => (intro wS hS; (try go_simp); (try with_reducible rfl))
                try simp only [Act.put, List.setIfInBounds_toArray, List.set_cons_zero, List.set_cons_succ]
                refine wpAnyH_ready (rs := [13]) (by kernel_rfl) (by simp) ?_
                refine AllReadyH.cons (o := { dst := some 66, op := Op.call { callee := Callee.value (Operand.func 20), args := #[Operand.tmp 65], argTypes := #[42] }, type := 9, pos := "law.go:74", after := #[{ on := 12, ground := Ground.data }, { on := 11, ground := Ground.chain }], guard := none }) rfl (fun K hK => ?_) AllReadyH.nil
                go_simp
                rw [show IntKind.u64.wrap (sval ds1) = ((sval ds1 % 18446744073709551616).toNat : Int) from by simp only [IntKind.wrap, IntKind.bits, IntKind.signed, Bool.false_and, Bool.false_eq_true, if_false]; omega]
                refine (number_any _ (by omega) _).mono ?_
                rintro e wa ⟨rfl, hna⟩
                unfold numV
                go_wp2_with fail
                have ht := ht.new hna
                have hn := hn.thenNew hna
                have hc := hc.new hna
                have hsz := Nat.le_trans hsz hna.size
                refine hK.out _ _ (by first | exact hn | exact Upd.alloc hn _) (fun hn => ?_)
                clear hK K
                try simp only [Act.put, List.setIfInBounds_toArray, List.set_cons_zero, List.set_cons_succ]
                refine wpAnyH_ready (rs := [14]) (by kernel_rfl) (by simp) ?_
                refine AllReadyH.cons (o := { dst := some 67, op := Op.buildSlice 25 1 #[(0, Operand.tmp 66)], type := 25, pos := "law.go:74", after := #[{ on := 13, ground := Ground.data }], guard := none }) rfl (fun K hK => ?_) AllReadyH.nil
                go_simp
                refine rowTStep [numL (sval ds1 % 18446744073709551616).toNat 8] ?_
                intro W5 hna hrt
                have ht := ht.new hna
                have hn := hn.thenNew hna
                have hc := hc.new hna
                have hsz := Nat.le_trans hsz hna.size
                refine hK.out _ _ (by first | exact hn | exact Upd.alloc hn _) (fun hn => ?_)
                clear hK K
                try simp only [Act.put, List.setIfInBounds_toArray, List.set_cons_zero, List.set_cons_succ]
                refine wpAnyH_ready (rs := [15]) (by kernel_rfl) (by simp) ?_
                refine AllReadyH.cons (o := { dst := some 68, op := Op.call { callee := Callee.builtin Builtin.append, args := #[Operand.tmp 56, Operand.tmp 67], argTypes := #[25, 25] }, type := 25, pos := "law.go:74", after := #[{ on := 3, ground := Ground.data }, { on := 14, ground := Ground.data }, { on := 13, ground := Ground.chain }], guard := none }) rfl (fun K hK => ?_) AllReadyH.nil
                refine stepT (.tmp 56) (.tmp 67) ht.txt hrt (by have := HPL.out.2; simp at this ⊢; omega) (by kernel_rfl) rfl rfl rfl ?_
                intro v8 wb htx haa
                obtain ⟨a8, n8, c8, rfl⟩ := htx.slice
                have hst := ht.stored haa htx
                have hn0 := hn
                have hbb := ht.cell.upd haa.upd ht.apart
                have hn := hn.trans haa.upd (fun k _ h => Or.inr (Or.inr h))
                refine hK.out _ _ (by first | exact hn | exact Upd.alloc hn _) (fun hn => ?_)
                clear hK K
                try simp only [Act.put, List.setIfInBounds_toArray, List.set_cons_zero, List.set_cons_succ]
                refine wpAnyH_take (i := 16) (oi := { dst := some 69, op := Op.nilCheck (Operand.tmp 53), type := 0, pos := "law.go:74", after := #[{ on := 0, ground := Ground.data }, { on := 0, ground := Ground.phase }, { on := 1, ground := Ground.phase }, { on := 2, ground := Ground.phase }, { on := 3, ground := Ground.phase }, { on := 4, ground := Ground.phase }, { on := 5, ground := Ground.phase }, { on := 6, ground := Ground.phase }, { on := 7, ground := Ground.phase }, { on := 8, ground := Ground.phase }, { on := 9, ground := Ground.phase }, { on := 10, ground := Ground.phase }, { on := 11, ground := Ground.phase }, { on := 12, ground := Ground.phase }, { on := 13, ground := Ground.phase }, { on := 14, ground := Ground.phase }, { on := 15, ground := Ground.phase }], guard := none }) (v := ?v36x13) rfl (by kernel_rfl) (by kernel_rfl) (by kernel_rfl) (fun _ _ _ h => h) (Or.inl ⟨by rfl, ?y36x13⟩) hn ?r36x13
                case y36x13 => (intro wS hS; (try go_simp); (try with_reducible rfl))
                try simp only [Act.put, List.setIfInBounds_toArray, List.set_cons_zero, List.set_cons_succ]
                refine wpAnyH_ready (rs := [17]) (by kernel_rfl) (by simp) ?_
                refine AllReadyH.cons (o := { dst := none, op := Op.store 25 (Operand.tmp 69) (Operand.tmp 68), type := 0, pos := "law.go:74", after := #[{ on := 16, ground := Ground.data }, { on := 15, ground := Ground.data }, { on := 15, ground := Ground.chain }, { on := 0, ground := Ground.phase }, { on := 1, ground := Ground.phase }, { on := 2, ground := Ground.phase }, { on := 3, ground := Ground.phase }, { on := 4, ground := Ground.phase }, { on := 5, ground := Ground.phase }, { on := 6, ground := Ground.phase }, { on := 7, ground := Ground.phase }, { on := 8, ground := Ground.phase }, { on := 9, ground := Ground.phase }, { on := 10, ground := Ground.phase }, { on := 11, ground := Ground.phase }, { on := 12, ground := Ground.phase }, { on := 13, ground := Ground.phase }, { on := 14, ground := Ground.phase }, { on := 15, ground := Ground.phase }], guard := none }) rfl (fun K hK => ?_) AllReadyH.nil
                have cb := hbb.c
                have fb := hbb.f
                go_simp
                have hn := hn0.trans hst.2.1 (fun k _ h => Or.inr h)
                refine hK.out _ _ (by first | exact hn | exact Upd.alloc hn _) (fun hn => ?_)
                clear hK K
                try simp only [Act.put, List.setIfInBounds_toArray, List.set_cons_zero, List.set_cons_succ]
                refine wpAnyH_done (by kernel_rfl) ?_ _
                go_wp2_with fail
                go_meet
                exact ⟨_, _, _, ⟨HAO.out, by rw [HD.out]; decide, hn, hst.1, (Grown.refl _ _).trans hsz hst.2.2, HSU.out.cur hc hst.2.1 (fun _ h => h)⟩⟩
              refine AllReadyH.cons (o := { dst := some 64, op := Op.call { callee := Callee.value (Operand.func 23), args := #[Operand.tmp 57, Operand.tmp 59, Operand.tmp 63], argTypes := #[29, 3, 68] }, type := 2, pos := "law.go:74", after := #[{ on := 4, ground := Ground.data }, { on := 6, ground := Ground.data }, { on := 10, ground := Ground.data }, { on := 10, ground := Ground.chain }], guard := none }) rfl (fun K hK => ?_) AllReadyH.nil
              go_simp
              refine (HCL.out _ hnn).mono ?_
              rintro e wa ⟨hua, rfl, hc⟩
              unfold SintV
              go_wp2_with fail
              have ht := ht.upd hua (fun k hk e => HSU.out.co (by rw [← e]; exact hk))
              have hn := hn.trans hua (fun k _ h => Or.inl h)
              have hsz := Nat.le_trans hsz hua.size
              refine hK.out _ _ (by first | exact hn | exact Upd.alloc hn _) (fun hn => ?_)
              clear hK K
              try simp only [Act.put, List.setIfInBounds_toArray, List.set_cons_zero, List.set_cons_succ]
              refine wpAnyH_take (i := 12) (oi := { dst := some 65, op := Op.convert 2 42 (Operand.tmp 64), type := 42, pos := "law.go:74", after := #[{ on := 11, ground := Ground.data }], guard := none }) (v := ?v36x14) rfl (by kernel_rfl) (by kernel_rfl) (by kernel_rfl) (fun _ _ _ h => h) (Or.inl ⟨by rfl, ?y36x14⟩) hn ?r36x14
              case y36x14 => (intro wS hS; (try go_simp); (try with_reducible rfl))
              try simp only [Act.put, List.setIfInBounds_toArray, List.set_cons_zero, List.set_cons_succ]
              refine wpAnyH_ready (rs := [3, 13]) (by kernel_rfl) (by simp) ?_
              refine AllReadyH.cons (o := { dst := some 56, op := Op.load 25 (Operand.tmp 55), type := 25, pos := "law.go:74", after := #[{ on := 2, ground := Ground.data }], guard := none }) rfl (fun K hK => ?_) ?_
              · skip
                have c := ht.cell.c
                go_simp
                refine hK.out _ _ (by first | exact hn | exact Upd.alloc hn _) (fun hn => ?_)
                clear hK K
                try simp only [Act.put, List.setIfInBounds_toArray, List.set_cons_zero, List.set_cons_succ]
                refine wpAnyH_ready (rs := [13]) (by kernel_rfl) (by simp) ?_
                refine AllReadyH.cons (o := { dst := some 66, op := Op.call { callee := Callee.value (Operand.func 20), args := #[Operand.tmp 65], argTypes := #[42] }, type := 9, pos := "law.go:74", after := #[{ on := 12, ground := Ground.data }, { on := 11, ground := Ground.chain }], guard := none }) rfl (fun K hK => ?_) AllReadyH.nil
                go_simp
                rw [show IntKind.u64.wrap (sval ds1) = ((sval ds1 % 18446744073709551616).toNat : Int) from by simp only [IntKind.wrap, IntKind.bits, IntKind.signed, Bool.false_and, Bool.false_eq_true, if_false]; omega]
                refine (number_any _ (by omega) _).mono ?_
                rintro e wa ⟨rfl, hna⟩
                unfold numV
                go_wp2_with fail
                have ht := ht.new hna
                have hn := hn.thenNew hna
                have hc := hc.new hna
                have hsz := Nat.le_trans hsz hna.size
                refine hK.out _ _ (by first | exact hn | exact Upd.alloc hn _) (fun hn => ?_)
                clear hK K
                try simp only [Act.put, List.setIfInBounds_toArray, List.set_cons_zero, List.set_cons_succ]
                refine wpAnyH_ready (rs := [14]) (by kernel_rfl) (by simp) ?_
                refine AllReadyH.cons (o := { dst := some 67, op := Op.buildSlice 25 1 #[(0, Operand.tmp 66)], type := 25, pos := "law.go:74", after := #[{ on := 13, ground := Ground.data }], guard := none }) rfl (fun K hK => ?_) AllReadyH.nil
                go_simp
                refine rowTStep [numL (sval ds1 % 18446744073709551616).toNat 8] ?_
                intro W5 hna hrt
                have ht := ht.new hna
                have hn := hn.thenNew hna
                have hc := hc.new hna
                have hsz := Nat.le_trans hsz hna.size
                refine hK.out _ _ (by first | exact hn | exact Upd.alloc hn _) (fun hn => ?_)
                clear hK K
                try simp only [Act.put, List.setIfInBounds_toArray, List.set_cons_zero, List.set_cons_succ]
                refine wpAnyH_ready (rs := [15]) (by kernel_rfl) (by simp) ?_
                refine AllReadyH.cons (o := { dst := some 68, op := Op.call { callee := Callee.builtin Builtin.append, args := #[Operand.tmp 56, Operand.tmp 67], argTypes := #[25, 25] }, type := 25, pos := "law.go:74", after := #[{ on := 3, ground := Ground.data }, { on := 14, ground := Ground.data }, { on := 13, ground := Ground.chain }], guard := none }) rfl (fun K hK => ?_) AllReadyH.nil
                refine stepT (.tmp 56) (.tmp 67) ht.txt hrt (by have := HPL.out.2; simp at this ⊢; omega) (by kernel_rfl) rfl rfl rfl ?_
                intro v8 wb htx haa
                obtain ⟨a8, n8, c8, rfl⟩ := htx.slice
                have hst := ht.stored haa htx
                have hn0 := hn
                have hbb := ht.cell.upd haa.upd ht.apart
                have hn := hn.trans haa.upd (fun k _ h => Or.inr (Or.inr h))
                refine hK.out _ _ (by first | exact hn | exact Upd.alloc hn _) (fun hn => ?_)
                clear hK K
                try simp only [Act.put, List.setIfInBounds_toArray, List.set_cons_zero, List.set_cons_succ]
                refine wpAnyH_take (i := 16) (oi := { dst := some 69, op := Op.nilCheck (Operand.tmp 53), type := 0, pos := "law.go:74", after := #[{ on := 0, ground := Ground.data }, { on := 0, ground := Ground.phase }, { on := 1, ground := Ground.phase }, { on := 2, ground := Ground.phase }, { on := 3, ground := Ground.phase }, { on := 4, ground := Ground.phase }, { on := 5, ground := Ground.phase }, { on := 6, ground := Ground.phase }, { on := 7, ground := Ground.phase }, { on := 8, ground := Ground.phase }, { on := 9, ground := Ground.phase }, { on := 10, ground := Ground.phase }, { on := 11, ground := Ground.phase }, { on := 12, ground := Ground.phase }, { on := 13, ground := Ground.phase }, { on := 14, ground := Ground.phase }, { on := 15, ground := Ground.phase }], guard := none }) (v := ?v36x15) rfl (by kernel_rfl) (by kernel_rfl) (by kernel_rfl) (fun _ _ _ h => h) (Or.inl ⟨by rfl, ?y36x15⟩) hn ?r36x15
                case y36x15 => (intro wS hS; (try go_simp); (try with_reducible rfl))
                try simp only [Act.put, List.setIfInBounds_toArray, List.set_cons_zero, List.set_cons_succ]
                refine wpAnyH_ready (rs := [17]) (by kernel_rfl) (by simp) ?_
                refine AllReadyH.cons (o := { dst := none, op := Op.store 25 (Operand.tmp 69) (Operand.tmp 68), type := 0, pos := "law.go:74", after := #[{ on := 16, ground := Ground.data }, { on := 15, ground := Ground.data }, { on := 15, ground := Ground.chain }, { on := 0, ground := Ground.phase }, { on := 1, ground := Ground.phase }, { on := 2, ground := Ground.phase }, { on := 3, ground := Ground.phase }, { on := 4, ground := Ground.phase }, { on := 5, ground := Ground.phase }, { on := 6, ground := Ground.phase }, { on := 7, ground := Ground.phase }, { on := 8, ground := Ground.phase }, { on := 9, ground := Ground.phase }, { on := 10, ground := Ground.phase }, { on := 11, ground := Ground.phase }, { on := 12, ground := Ground.phase }, { on := 13, ground := Ground.phase }, { on := 14, ground := Ground.phase }, { on := 15, ground := Ground.phase }], guard := none }) rfl (fun K hK => ?_) AllReadyH.nil
                have cb := hbb.c
                have fb := hbb.f
                go_simp
                have hn := hn0.trans hst.2.1 (fun k _ h => Or.inr h)
                refine hK.out _ _ (by first | exact hn | exact Upd.alloc hn _) (fun hn => ?_)
                clear hK K
                try simp only [Act.put, List.setIfInBounds_toArray, List.set_cons_zero, List.set_cons_succ]
                refine wpAnyH_done (by kernel_rfl) ?_ _
                go_wp2_with fail
                go_meet
                exact ⟨_, _, _, ⟨HAO.out, by rw [HD.out]; decide, hn, hst.1, (Grown.refl _ _).trans hsz hst.2.2, HSU.out.cur hc hst.2.1 (fun _ h => h)⟩⟩
              refine AllReadyH.cons (o := { dst := some 66, op := Op.call { callee := Callee.value (Operand.func 20), args := #[Operand.tmp 65], argTypes := #[42] }, type := 9, pos := "law.go:74", after := #[{ on := 12, ground := Ground.data }, { on := 11, ground := Ground.chain }], guard := none }) rfl (fun K hK => ?_) AllReadyH.nil
              go_simp
              rw [show IntKind.u64.wrap (sval ds1) = ((sval ds1 % 18446744073709551616).toNat : Int) from by simp only [IntKind.wrap, IntKind.bits, IntKind.signed, Bool.false_and, Bool.false_eq_true, if_false]; omega]
              refine (number_any _ (by omega) _).mono ?_
              rintro e wa ⟨rfl, hna⟩
              unfold numV
              go_wp2_with fail
              have ht := ht.new hna
              have hn := hn.thenNew hna
              have hc := hc.new hna
              have hsz := Nat.le_trans hsz hna.size
              refine hK.out _ _ (by first | exact hn | exact Upd.alloc hn _) (fun hn => ?_)
              clear hK K
              try simp only [Act.put, List.setIfInBounds_toArray, List.set_cons_zero, List.set_cons_succ]
              refine wpAnyH_ready (rs := [3, 14]) (by kernel_rfl) (by simp) ?_
              refine AllReadyH.cons (o := { dst := some 56, op := Op.load 25 (Operand.tmp 55), type := 25, pos := "law.go:74", after := #[{ on := 2, ground := Ground.data }], guard := none }) rfl (fun K hK => ?_) ?_
              · skip
                have c := ht.cell.c
                go_simp
                refine hK.out _ _ (by first | exact hn | exact Upd.alloc hn _) (fun hn => ?_)
                clear hK K
                try simp only [Act.put, List.setIfInBounds_toArray, List.set_cons_zero, List.set_cons_succ]
                refine wpAnyH_ready (rs := [14]) (by kernel_rfl) (by simp) ?_
                refine AllReadyH.cons (o := { dst := some 67, op := Op.buildSlice 25 1 #[(0, Operand.tmp 66)], type := 25, pos := "law.go:74", after := #[{ on := 13, ground := Ground.data }], guard := none }) rfl (fun K hK => ?_) AllReadyH.nil
                go_simp
                refine rowTStep [numL (sval ds1 % 18446744073709551616).toNat 8] ?_
                intro W5 hna hrt
                have ht := ht.new hna
                have hn := hn.thenNew hna
                have hc := hc.new hna
                have hsz := Nat.le_trans hsz hna.size
                refine hK.out _ _ (by first | exact hn | exact Upd.alloc hn _) (fun hn => ?_)
                clear hK K
                try simp only [Act.put, List.setIfInBounds_toArray, List.set_cons_zero, List.set_cons_succ]
                refine wpAnyH_ready (rs := [15]) (by kernel_rfl) (by simp) ?_
                refine AllReadyH.cons (o := { dst := some 68, op := Op.call { callee := Callee.builtin Builtin.append, args := #[Operand.tmp 56, Operand.tmp 67], argTypes := #[25, 25] }, type := 25, pos := "law.go:74", after := #[{ on := 3, ground := Ground.data }, { on := 14, ground := Ground.data }, { on := 13, ground := Ground.chain }], guard := none }) rfl (fun K hK => ?_) AllReadyH.nil
                refine stepT (.tmp 56) (.tmp 67) ht.txt hrt (by have := HPL.out.2; simp at this ⊢; omega) (by kernel_rfl) rfl rfl rfl ?_
                intro v8 wb htx haa
                obtain ⟨a8, n8, c8, rfl⟩ := htx.slice
                have hst := ht.stored haa htx
                have hn0 := hn
                have hbb := ht.cell.upd haa.upd ht.apart
                have hn := hn.trans haa.upd (fun k _ h => Or.inr (Or.inr h))
                refine hK.out _ _ (by first | exact hn | exact Upd.alloc hn _) (fun hn => ?_)
                clear hK K
                try simp only [Act.put, List.setIfInBounds_toArray, List.set_cons_zero, List.set_cons_succ]
                refine wpAnyH_take (i := 16) (oi := { dst := some 69, op := Op.nilCheck (Operand.tmp 53), type := 0, pos := "law.go:74", after := #[{ on := 0, ground := Ground.data }, { on := 0, ground := Ground.phase }, { on := 1, ground := Ground.phase }, { on := 2, ground := Ground.phase }, { on := 3, ground := Ground.phase }, { on := 4, ground := Ground.phase }, { on := 5, ground := Ground.phase }, { on := 6, ground := Ground.phase }, { on := 7, ground := Ground.phase }, { on := 8, ground := Ground.phase }, { on := 9, ground := Ground.phase }, { on := 10, ground := Ground.phase }, { on := 11, ground := Ground.phase }, { on := 12, ground := Ground.phase }, { on := 13, ground := Ground.phase }, { on := 14, ground := Ground.phase }, { on := 15, ground := Ground.phase }], guard := none }) (v := ?v36x16) rfl (by kernel_rfl) (by kernel_rfl) (by kernel_rfl) (fun _ _ _ h => h) (Or.inl ⟨by rfl, ?y36x16⟩) hn ?r36x16
                case y36x16 => (intro wS hS; (try go_simp); (try with_reducible rfl))
                try simp only [Act.put, List.setIfInBounds_toArray, List.set_cons_zero, List.set_cons_succ]
                refine wpAnyH_ready (rs := [17]) (by kernel_rfl) (by simp) ?_
                refine AllReadyH.cons (o := { dst := none, op := Op.store 25 (Operand.tmp 69) (Operand.tmp 68), type := 0, pos := "law.go:74", after := #[{ on := 16, ground := Ground.data }, { on := 15, ground := Ground.data }, { on := 15, ground := Ground.chain }, { on := 0, ground := Ground.phase }, { on := 1, ground := Ground.phase }, { on := 2, ground := Ground.phase }, { on := 3, ground := Ground.phase }, { on := 4, ground := Ground.phase }, { on := 5, ground := Ground.phase }, { on := 6, ground := Ground.phase }, { on := 7, ground := Ground.phase }, { on := 8, ground := Ground.phase }, { on := 9, ground := Ground.phase }, { on := 10, ground := Ground.phase }, { on := 11, ground := Ground.phase }, { on := 12, ground := Ground.phase }, { on := 13, ground := Ground.phase }, { on := 14, ground := Ground.phase }, { on := 15, ground := Ground.phase }], guard := none }) rfl (fun K hK => ?_) AllReadyH.nil
                have cb := hbb.c
                have fb := hbb.f
                go_simp
                have hn := hn0.trans hst.2.1 (fun k _ h => Or.inr h)
                refine hK.out _ _ (by first | exact hn | exact Upd.alloc hn _) (fun hn => ?_)
                clear hK K
                try simp only [Act.put, List.setIfInBounds_toArray, List.set_cons_zero, List.set_cons_succ]
                refine wpAnyH_done (by kernel_rfl) ?_ _
                go_wp2_with fail
                go_meet
                exact ⟨_, _, _, ⟨HAO.out, by rw [HD.out]; decide, hn, hst.1, (Grown.refl _ _).trans hsz hst.2.2, HSU.out.cur hc hst.2.1 (fun _ h => h)⟩⟩
              refine AllReadyH.cons (o := { dst := some 67, op := Op.buildSlice 25 1 #[(0, Operand.tmp 66)], type := 25, pos := "law.go:74", after := #[{ on := 13, ground := Ground.data }], guard := none }) rfl (fun K hK => ?_) AllReadyH.nil
              go_simp
              refine rowTStep [numL (sval ds1 % 18446744073709551616).toNat 8] ?_
              intro W5 hna hrt
              have ht := ht.new hna
              have hn := hn.thenNew hna
              have hc := hc.new hna
              have hsz := Nat.le_trans hsz hna.size
              refine hK.out _ _ (by first | exact hn | exact Upd.alloc hn _) (fun hn => ?_)
              clear hK K
              try simp only [Act.put, List.setIfInBounds_toArray, List.set_cons_zero, List.set_cons_succ]
              refine wpAnyH_ready (rs := [3]) (by kernel_rfl) (by simp) ?_
              refine AllReadyH.cons (o := { dst := some 56, op := Op.load 25 (Operand.tmp 55), type := 25, pos := "law.go:74", after := #[{ on := 2, ground := Ground.data }], guard := none }) rfl (fun K hK => ?_) AllReadyH.nil
              have c := ht.cell.c
              go_simp
              refine hK.out _ _ (by first | exact hn | exact Upd.alloc hn _) (fun hn => ?_)
              clear hK K
              try simp only [Act.put, List.setIfInBounds_toArray, List.set_cons_zero, List.set_cons_succ]
              refine wpAnyH_ready (rs := [15]) (by kernel_rfl) (by simp) ?_
              refine AllReadyH.cons (o := { dst := some 68, op := Op.call { callee := Callee.builtin Builtin.append, args := #[Operand.tmp 56, Operand.tmp 67], argTypes := #[25, 25] }, type := 25, pos := "law.go:74", after := #[{ on := 3, ground := Ground.data }, { on := 14, ground := Ground.data }, { on := 13, ground := Ground.chain }], guard := none }) rfl (fun K hK => ?_) AllReadyH.nil
              refine stepT (.tmp 56) (.tmp 67) ht.txt hrt (by have := HPL.out.2; simp at this ⊢; omega) (by kernel_rfl) rfl rfl rfl ?_
              intro v8 wb htx haa
              obtain ⟨a8, n8, c8, rfl⟩ := htx.slice
              have hst := ht.stored haa htx
              have hn0 := hn
              have hbb := ht.cell.upd haa.upd ht.apart
              have hn := hn.trans haa.upd (fun k _ h => Or.inr (Or.inr h))
              refine hK.out _ _ (by first | exact hn | exact Upd.alloc hn _) (fun hn => ?_)
              clear hK K
              try simp only [Act.put, List.setIfInBounds_toArray, List.set_cons_zero, List.set_cons_succ]
              refine wpAnyH_take (i := 16) (oi := { dst := some 69, op := Op.nilCheck (Operand.tmp 53), type := 0, pos := "law.go:74", after := #[{ on := 0, ground := Ground.data }, { on := 0, ground := Ground.phase }, { on := 1, ground := Ground.phase }, { on := 2, ground := Ground.phase }, { on := 3, ground := Ground.phase }, { on := 4, ground := Ground.phase }, { on := 5, ground := Ground.phase }, { on := 6, ground := Ground.phase }, { on := 7, ground := Ground.phase }, { on := 8, ground := Ground.phase }, { on := 9, ground := Ground.phase }, { on := 10, ground := Ground.phase }, { on := 11, ground := Ground.phase }, { on := 12, ground := Ground.phase }, { on := 13, ground := Ground.phase }, { on := 14, ground := Ground.phase }, { on := 15, ground := Ground.phase }], guard := none }) (v := ?v36x17) rfl (by kernel_rfl) (by kernel_rfl) (by kernel_rfl) (fun _ _ _ h => h) (Or.inl ⟨by rfl, ?y36x17⟩) hn ?r36x17
              case y36x17 => (intro wS hS; (try go_simp); (try with_reducible rfl))
              try simp only [Act.put, List.setIfInBounds_toArray, List.set_cons_zero, List.set_cons_succ]
              refine wpAnyH_ready (rs := [17]) (by kernel_rfl) (by simp) ?_
              refine AllReadyH.cons (o := { dst := none, op := Op.store 25 (Operand.tmp 69) (Operand.tmp 68), type := 0, pos := "law.go:74", after := #[{ on := 16, ground := Ground.data }, { on := 15, ground := Ground.data }, { on := 15, ground := Ground.chain }, { on := 0, ground := Ground.phase }, { on := 1, ground := Ground.phase }, { on := 2, ground := Ground.phase }, { on := 3, ground := Ground.phase }, { on := 4, ground := Ground.phase }, { on := 5, ground := Ground.phase }, { on := 6, ground := Ground.phase }, { on := 7, ground := Ground.phase }, { on := 8, ground := Ground.phase }, { on := 9, ground := Ground.phase }, { on := 10, ground := Ground.phase }, { on := 11, ground := Ground.phase }, { on := 12, ground := Ground.phase }, { on := 13, ground := Ground.phase }, { on := 14, ground := Ground.phase }, { on := 15, ground := Ground.phase }], guard := none }) rfl (fun K hK => ?_) AllReadyH.nil
              have cb := hbb.c
              have fb := hbb.f
              go_simp
              have hn := hn0.trans hst.2.1 (fun k _ h => Or.inr h)
              refine hK.out _ _ (by first | exact hn | exact Upd.alloc hn _) (fun hn => ?_)
              clear hK K
              try simp only [Act.put, List.setIfInBounds_toArray, List.set_cons_zero, List.set_cons_succ]
              refine wpAnyH_done (by kernel_rfl) ?_ _
              go_wp2_with fail
              go_meet
              exact ⟨_, _, _, ⟨HAO.out, by rw [HD.out]; decide, hn, hst.1, (Grown.refl _ _).trans hsz hst.2.2, HSU.out.cur hc hst.2.1 (fun _ h => h)⟩⟩
          · have e1 : w4.cell? ⟨wr.heap.size, 1, none⟩ = some (.int .i64 a.n) := CELL.out _ (Upd.refl _ _) 1 _ rfl
            have HCL : Hid (∀ W, New w4 W → Calls Try.prog 25 #[.pointer (some ⟨C, 0, none⟩), .int .i64 a.n] W (Got C vb bs lim strV (rawO bs lim a.n q) W)) := fun W hW => Raw_any (HQ.out.new hW) HIQ.out a.n HWF.out.n.1 HWF.out.n.2
            obtain ⟨x, hx⟩ : ∃ x, rawO bs lim a.n q = x := ⟨_, rfl⟩
            have HAO : Hid (askO bs lim a q = x) := by
              show _ = _
              unfold askO
              rw [HD.out, if_neg (by decide), if_neg (by decide), if_neg (by decide), if_pos rfl]
              exact hx
            rw [hx] at HCL
            clear hx
            go_wp2_with fail
            cases x with
            | up q' er =>
              have HGONE : Hid (∀ wd, New w4 wd → ∀ wa, Upd (· = C) wd wa → Cur wa C vb bs q' lim er → Did C vb bs lim O.2 wa (.panicked [{ v := gave C, recovered := false }]) ∧ Upd (SS C Bo u0) w wa ∧ ∃ u', Outs wa Bo u' (ds ++ O.1) ∧ Grown w u0 u') := by
                intro wd hnd wa hua hca
                obtain ⟨t, ht, -⟩ := HRT.out
                have h1 := IR.out.ho1
                have h2 := IR.out.ho2
                rw [ht, allO_up (by rw [HD.out]; decide) HAO.out] at h1 h2
                have hup : Upd (SS C Bo u) w4 wa := (New.upd hnd).trans hua (fun k _ h => Or.inl h)
                refine ⟨?_, ?_, u, ?_, (Grown.refl _ _).trans HN3.out.size IR.out.gr⟩
                · rw [h2]; exact ⟨rfl, hca⟩
                · exact ss_grow (U0.out.thenNew HN4.out) ((Grown.refl _ _).trans HN3.out.size IR.out.gr) hup
                · rw [h1, List.append_nil]; exact (HT.out.new hnd).upd hua (fun k hk e => HSU.out.co (by rw [← e]; exact hk))
              have hnn : New w4 w4.drew := (Upd.refl _ _).drew
              have hn : Upd (SS C Bo u) w4 w4.drew := (Upd.refl _ _).drew
              have hsz : w4.heap.size ≤ w4.drew.heap.size := Nat.le_refl _
              have ht := HT.out.new hnn
              refine wp_region_held_drew (S := (Upd (SS C Bo u) w4)) (by kernel_rfl) (by first | exact hn | exact (Upd.refl _ _).drew | exact Upd.drew (by assumption)) (fun hn => ?_)
              generalize w4.drew = wd at *
              refine wpAnyH_take (i := 0) (oi := { dst := some 72, op := Op.load 31 (Operand.tmp 5), type := 31, pos := "law.go:76", after := #[], guard := none }) (v := ?v37x1) rfl (by kernel_rfl) (by kernel_rfl) (by kernel_rfl) (fun _ _ _ h => h) (Or.inl ⟨by rfl, ?y37x1⟩) hn ?r37x1
              case y37x1 => (intro wS hS; have c := E5.out _ hS; (try go_simp); (try with_reducible rfl))
              try simp only [Act.put, List.setIfInBounds_toArray, List.set_cons_zero, List.set_cons_succ]
              refine wpAnyH_take (i := 1) (oi := { dst := some 73, op := Op.load 31 (Operand.tmp 5), type := 31, pos := "law.go:76", after := #[], guard := none }) (v := ?v37x2) rfl (by kernel_rfl) (by kernel_rfl) (by kernel_rfl) (fun _ _ _ h => h) (Or.inl ⟨by rfl, ?y37x2⟩) hn ?r37x2
              case y37x2 => (intro wS hS; have c := E5.out _ hS; (try go_simp); (try with_reducible rfl))
              try simp only [Act.put, List.setIfInBounds_toArray, List.set_cons_zero, List.set_cons_succ]
              refine wpAnyH_take (i := 2) (oi := { dst := some 74, op := Op.nilCheck (Operand.tmp 73), type := 0, pos := "law.go:76", after := #[{ on := 1, ground := Ground.data }], guard := none }) (v := ?v37x3) rfl (by kernel_rfl) (by kernel_rfl) (by kernel_rfl) (fun _ _ _ h => h) (Or.inl ⟨by rfl, ?y37x3⟩) hn ?r37x3
              case y37x3 => (intro wS hS; (try go_simp); (try with_reducible rfl))
              try simp only [Act.put, List.setIfInBounds_toArray, List.set_cons_zero, List.set_cons_succ]
              refine wpAnyH_take (i := 4) (oi := { dst := some 76, op := Op.load 29 (Operand.tmp 3), type := 29, pos := "law.go:76", after := #[], guard := none }) (v := ?v37x4) rfl (by kernel_rfl) (by kernel_rfl) (by kernel_rfl) (fun _ _ _ h => h) (Or.inl ⟨by rfl, ?y37x4⟩) hn ?r37x4
              case y37x4 => (intro wS hS; have c := E3.out _ hS; (try go_simp); (try with_reducible rfl))
              try simp only [Act.put, List.setIfInBounds_toArray, List.set_cons_zero, List.set_cons_succ]
              refine wpAnyH_take (i := 5) (oi := { dst := some 77, op := Op.fieldAddr 49 (Operand.tmp 7) 1, type := 0, pos := "law.go:76", after := #[], guard := none }) (v := ?v37x5) rfl (by kernel_rfl) (by kernel_rfl) (by kernel_rfl) (fun _ _ _ h => h) (Or.inl ⟨by rfl, ?y37x5⟩) hn ?r37x5
              case y37x5 => (intro wS hS; (try go_simp); (try with_reducible rfl))
              try simp only [Act.put, List.setIfInBounds_toArray, List.set_cons_zero, List.set_cons_succ]
              refine wpAnyH_take (i := 6) (oi := { dst := some 78, op := Op.load 3 (Operand.tmp 77), type := 3, pos := "law.go:76", after := #[{ on := 5, ground := Ground.data }], guard := none }) (v := ?v37x6) rfl (by kernel_rfl) (by kernel_rfl) (by kernel_rfl) (fun _ _ _ h => h) (Or.inl ⟨by rfl, ?y37x6⟩) hn ?r37x6
              case y37x6 => (intro wS hS; have c := CELL.out _ hS 1 _ rfl; (try go_simp); (try with_reducible rfl))
              try simp only [Act.put, List.setIfInBounds_toArray, List.set_cons_zero, List.set_cons_succ]
              refine wpAnyH_ready (rs := [3, 7]) (by kernel_rfl) (by simp) ?_
              refine AllReadyH.cons (o := { dst := some 75, op := Op.load 25 (Operand.tmp 74), type := 25, pos := "law.go:76", after := #[{ on := 2, ground := Ground.data }], guard := none }) rfl (fun K hK => ?_) ?_
              · skip
                have c := ht.cell.c
                go_simp
                refine hK.out _ _ (by first | exact hn | exact Upd.alloc hn _) (fun hn => ?_)
                clear hK K
                try simp only [Act.put, List.setIfInBounds_toArray, List.set_cons_zero, List.set_cons_succ]
                refine wpAnyH_ready (rs := [7]) (by kernel_rfl) (by simp) ?_
                refine AllReadyH.cons (o := { dst := some 79, op := Op.call { callee := Callee.value (Operand.func 25), args := #[Operand.tmp 76, Operand.tmp 78], argTypes := #[29, 3] }, type := 9, pos := "law.go:76", after := #[{ on := 4, ground := Ground.data }, { on := 6, ground := Ground.data }], guard := none }) rfl (fun K hK => ?_) AllReadyH.nil
                go_simp
                refine (HCL.out _ hnn).mono ?_
                rintro e wa ⟨hua, rfl, hca⟩
                go_wp2_with fail
                have hg := HGONE.out _ hnn wa hua hca
                exact ⟨rfl, hg.2.1, hg.1, hg.2.2⟩
              refine AllReadyH.cons (o := { dst := some 79, op := Op.call { callee := Callee.value (Operand.func 25), args := #[Operand.tmp 76, Operand.tmp 78], argTypes := #[29, 3] }, type := 9, pos := "law.go:76", after := #[{ on := 4, ground := Ground.data }, { on := 6, ground := Ground.data }], guard := none }) rfl (fun K hK => ?_) AllReadyH.nil
              go_simp
              refine (HCL.out _ hnn).mono ?_
              rintro e wa ⟨hua, rfl, hca⟩
              go_wp2_with fail
              have hg := HGONE.out _ hnn wa hua hca
              exact ⟨rfl, hg.2.1, hg.1, hg.2.2⟩
            | ok s q' =>
              have hnn : New w4 w4.drew := (Upd.refl _ _).drew
              have hn : Upd (SS C Bo u) w4 w4.drew := (Upd.refl _ _).drew
              have hsz : w4.heap.size ≤ w4.drew.heap.size := Nat.le_refl _
              have ht := HT.out.new hnn
              refine wp_region_held_drew (S := (Upd (SS C Bo u) w4)) (by kernel_rfl) (by first | exact hn | exact (Upd.refl _ _).drew | exact Upd.drew (by assumption)) (fun hn => ?_)
              generalize w4.drew = wd at *
              refine wpAnyH_take (i := 0) (oi := { dst := some 72, op := Op.load 31 (Operand.tmp 5), type := 31, pos := "law.go:76", after := #[], guard := none }) (v := ?v38x1) rfl (by kernel_rfl) (by kernel_rfl) (by kernel_rfl) (fun _ _ _ h => h) (Or.inl ⟨by rfl, ?y38x1⟩) hn ?r38x1
              case y38x1 => (intro wS hS; have c := E5.out _ hS; (try go_simp); (try with_reducible rfl))
              try simp only [Act.put, List.setIfInBounds_toArray, List.set_cons_zero, List.set_cons_succ]
              refine wpAnyH_take (i := 1) (oi := { dst := some 73, op := Op.load 31 (Operand.tmp 5), type := 31, pos := "law.go:76", after := #[], guard := none }) (v := ?v38x2) rfl (by kernel_rfl) (by kernel_rfl) (by kernel_rfl) (fun _ _ _ h => h) (Or.inl ⟨by rfl, ?y38x2⟩) hn ?r38x2
              case y38x2 => (intro wS hS; have c := E5.out _ hS; (try go_simp); (try with_reducible rfl))
              try simp only [Act.put, List.setIfInBounds_toArray, List.set_cons_zero, List.set_cons_succ]
              refine wpAnyH_take (i := 2) (oi := { dst := some 74, op := Op.nilCheck (Operand.tmp 73), type := 0, pos := "law.go:76", after := #[{ on := 1, ground := Ground.data }], guard := none }) (v := ?v38x3) rfl (by kernel_rfl) (by kernel_rfl) (by kernel_rfl) (fun _ _ _ h => h) (Or.inl ⟨by rfl, ?y38x3⟩) hn ?r38x3
              case y38x3 => (intro wS hS; (try go_simp); (try with_reducible rfl))
              try simp only [Act.put, List.setIfInBounds_toArray, List.set_cons_zero, List.set_cons_succ]
              refine wpAnyH_take (i := 4) (oi := { dst := some 76, op := Op.load 29 (Operand.tmp 3), type := 29, pos := "law.go:76", after := #[], guard := none }) (v := ?v38x4) rfl (by kernel_rfl) (by kernel_rfl) (by kernel_rfl) (fun _ _ _ h => h) (Or.inl ⟨by rfl, ?y38x4⟩) hn ?r38x4
              case y38x4 => (intro wS hS; have c := E3.out _ hS; (try go_simp); (try with_reducible rfl))
              try simp only [Act.put, List.setIfInBounds_toArray, List.set_cons_zero, List.set_cons_succ]
              refine wpAnyH_take (i := 5) (oi := { dst := some 77, op := Op.fieldAddr 49 (Operand.tmp 7) 1, type := 0, pos := "law.go:76", after := #[], guard := none }) (v := ?v38x5) rfl (by kernel_rfl) (by kernel_rfl) (by kernel_rfl) (fun _ _ _ h => h) (Or.inl ⟨by rfl, ?y38x5⟩) hn ?r38x5
              case y38x5 => (intro wS hS; (try go_simp); (try with_reducible rfl))
              try simp only [Act.put, List.setIfInBounds_toArray, List.set_cons_zero, List.set_cons_succ]
              refine wpAnyH_take (i := 6) (oi := { dst := some 78, op := Op.load 3 (Operand.tmp 77), type := 3, pos := "law.go:76", after := #[{ on := 5, ground := Ground.data }], guard := none }) (v := ?v38x6) rfl (by kernel_rfl) (by kernel_rfl) (by kernel_rfl) (fun _ _ _ h => h) (Or.inl ⟨by rfl, ?y38x6⟩) hn ?r38x6
              case y38x6 => (intro wS hS; have c := CELL.out _ hS 1 _ rfl; (try go_simp); (try with_reducible rfl))
              try simp only [Act.put, List.setIfInBounds_toArray, List.set_cons_zero, List.set_cons_succ]
              refine wpAnyH_ready (rs := [3, 7]) (by kernel_rfl) (by simp) ?_
              refine AllReadyH.cons (o := { dst := some 75, op := Op.load 25 (Operand.tmp 74), type := 25, pos := "law.go:76", after := #[{ on := 2, ground := Ground.data }], guard := none }) rfl (fun K hK => ?_) ?_
              · skip
                have c := ht.cell.c
                go_simp
                refine hK.out _ _ (by first | exact hn | exact Upd.alloc hn _) (fun hn => ?_)
                clear hK K
                try simp only [Act.put, List.setIfInBounds_toArray, List.set_cons_zero, List.set_cons_succ]
                refine wpAnyH_ready (rs := [7]) (by kernel_rfl) (by simp) ?_
                refine AllReadyH.cons (o := { dst := some 79, op := Op.call { callee := Callee.value (Operand.func 25), args := #[Operand.tmp 76, Operand.tmp 78], argTypes := #[29, 3] }, type := 9, pos := "law.go:76", after := #[{ on := 4, ground := Ground.data }, { on := 6, ground := Ground.data }], guard := none }) rfl (fun K hK => ?_) AllReadyH.nil
                go_simp
                refine (HCL.out _ hnn).mono ?_
                rintro e wa ⟨hua, rfl, hc⟩
                go_wp2_with fail
                have ht := ht.upd hua (fun k hk e => HSU.out.co (by rw [← e]; exact hk))
                have hn := hn.trans hua (fun k _ h => Or.inl h)
                have hsz := Nat.le_trans hsz hua.size
                refine hK.out _ _ (by first | exact hn | exact Upd.alloc hn _) (fun hn => ?_)
                clear hK K
                try simp only [Act.put, List.setIfInBounds_toArray, List.set_cons_zero, List.set_cons_succ]
                refine wpAnyH_ready (rs := [8]) (by kernel_rfl) (by simp) ?_
                refine AllReadyH.cons (o := { dst := some 80, op := Op.buildSlice 25 1 #[(0, Operand.tmp 79)], type := 25, pos := "law.go:76", after := #[{ on := 7, ground := Ground.data }], guard := none }) rfl (fun K hK => ?_) AllReadyH.nil
                go_simp
                refine rowTStep [s] ?_
                intro W5 hn5 hrt
                have ht := ht.new hn5
                have hn := hn.thenNew hn5
                have hc := hc.new hn5
                have hsz := Nat.le_trans hsz hn5.size
                refine hK.out _ _ (by first | exact hn | exact Upd.alloc hn _) (fun hn => ?_)
                clear hK K
                try simp only [Act.put, List.setIfInBounds_toArray, List.set_cons_zero, List.set_cons_succ]
                refine wpAnyH_ready (rs := [9]) (by kernel_rfl) (by simp) ?_
                refine AllReadyH.cons (o := { dst := some 81, op := Op.call { callee := Callee.builtin Builtin.append, args := #[Operand.tmp 75, Operand.tmp 80], argTypes := #[25, 25] }, type := 25, pos := "law.go:76", after := #[{ on := 3, ground := Ground.data }, { on := 8, ground := Ground.data }, { on := 7, ground := Ground.chain }], guard := none }) rfl (fun K hK => ?_) AllReadyH.nil
                refine stepT (.tmp 75) (.tmp 80) ht.txt hrt (by have := HPL.out.2; simp at this ⊢; omega) (by kernel_rfl) rfl rfl rfl ?_
                intro v8 wb htx haa
                obtain ⟨a8, n8, c8, rfl⟩ := htx.slice
                have hst := ht.stored haa htx
                have hn0 := hn
                have hbb := ht.cell.upd haa.upd ht.apart
                have hn := hn.trans haa.upd (fun k _ h => Or.inr (Or.inr h))
                refine hK.out _ _ (by first | exact hn | exact Upd.alloc hn _) (fun hn => ?_)
                clear hK K
                try simp only [Act.put, List.setIfInBounds_toArray, List.set_cons_zero, List.set_cons_succ]
                refine wpAnyH_take (i := 10) (oi := { dst := some 82, op := Op.nilCheck (Operand.tmp 72), type := 0, pos := "law.go:76", after := #[{ on := 0, ground := Ground.data }, { on := 0, ground := Ground.phase }, { on := 1, ground := Ground.phase }, { on := 2, ground := Ground.phase }, { on := 3, ground := Ground.phase }, { on := 4, ground := Ground.phase }, { on := 5, ground := Ground.phase }, { on := 6, ground := Ground.phase }, { on := 7, ground := Ground.phase }, { on := 8, ground := Ground.phase }, { on := 9, ground := Ground.phase }], guard := none }) (v := ?v38x7) rfl (by kernel_rfl) (by kernel_rfl) (by kernel_rfl) (fun _ _ _ h => h) (Or.inl ⟨by rfl, ?y38x7⟩) hn ?r38x7
                case y38x7 => (intro wS hS; (try go_simp); (try with_reducible rfl))
                try simp only [Act.put, List.setIfInBounds_toArray, List.set_cons_zero, List.set_cons_succ]
                refine wpAnyH_ready (rs := [11]) (by kernel_rfl) (by simp) ?_
                refine AllReadyH.cons (o := { dst := none, op := Op.store 25 (Operand.tmp 82) (Operand.tmp 81), type := 0, pos := "law.go:76", after := #[{ on := 10, ground := Ground.data }, { on := 9, ground := Ground.data }, { on := 9, ground := Ground.chain }, { on := 0, ground := Ground.phase }, { on := 1, ground := Ground.phase }, { on := 2, ground := Ground.phase }, { on := 3, ground := Ground.phase }, { on := 4, ground := Ground.phase }, { on := 5, ground := Ground.phase }, { on := 6, ground := Ground.phase }, { on := 7, ground := Ground.phase }, { on := 8, ground := Ground.phase }, { on := 9, ground := Ground.phase }], guard := none }) rfl (fun K hK => ?_) AllReadyH.nil
                have cb := hbb.c
                have fb := hbb.f
                go_simp
                have hn := hn0.trans hst.2.1 (fun k _ h => Or.inr h)
                refine hK.out _ _ (by first | exact hn | exact Upd.alloc hn _) (fun hn => ?_)
                clear hK K
                try simp only [Act.put, List.setIfInBounds_toArray, List.set_cons_zero, List.set_cons_succ]
                refine wpAnyH_done (by kernel_rfl) ?_ _
                go_wp2_with fail
                go_meet
                exact ⟨_, _, _, ⟨HAO.out, by rw [HD.out]; decide, hn, hst.1, (Grown.refl _ _).trans hsz hst.2.2, HSU.out.cur hc hst.2.1 (fun _ h => h)⟩⟩
              refine AllReadyH.cons (o := { dst := some 79, op := Op.call { callee := Callee.value (Operand.func 25), args := #[Operand.tmp 76, Operand.tmp 78], argTypes := #[29, 3] }, type := 9, pos := "law.go:76", after := #[{ on := 4, ground := Ground.data }, { on := 6, ground := Ground.data }], guard := none }) rfl (fun K hK => ?_) AllReadyH.nil
              go_simp
              refine (HCL.out _ hnn).mono ?_
              rintro e wa ⟨hua, rfl, hc⟩
              go_wp2_with fail
              have ht := ht.upd hua (fun k hk e => HSU.out.co (by rw [← e]; exact hk))
              have hn := hn.trans hua (fun k _ h => Or.inl h)
              have hsz := Nat.le_trans hsz hua.size
              refine hK.out _ _ (by first | exact hn | exact Upd.alloc hn _) (fun hn => ?_)
              clear hK K
              try simp only [Act.put, List.setIfInBounds_toArray, List.set_cons_zero, List.set_cons_succ]
              refine wpAnyH_ready (rs := [3, 8]) (by kernel_rfl) (by simp) ?_
              refine AllReadyH.cons (o := { dst := some 75, op := Op.load 25 (Operand.tmp 74), type := 25, pos := "law.go:76", after := #[{ on := 2, ground := Ground.data }], guard := none }) rfl (fun K hK => ?_) ?_
              · skip
                have c := ht.cell.c
                go_simp
                refine hK.out _ _ (by first | exact hn | exact Upd.alloc hn _) (fun hn => ?_)
                clear hK K
                try simp only [Act.put, List.setIfInBounds_toArray, List.set_cons_zero, List.set_cons_succ]
                refine wpAnyH_ready (rs := [8]) (by kernel_rfl) (by simp) ?_
                refine AllReadyH.cons (o := { dst := some 80, op := Op.buildSlice 25 1 #[(0, Operand.tmp 79)], type := 25, pos := "law.go:76", after := #[{ on := 7, ground := Ground.data }], guard := none }) rfl (fun K hK => ?_) AllReadyH.nil
                go_simp
                refine rowTStep [s] ?_
                intro W5 hn5 hrt
                have ht := ht.new hn5
                have hn := hn.thenNew hn5
                have hc := hc.new hn5
                have hsz := Nat.le_trans hsz hn5.size
                refine hK.out _ _ (by first | exact hn | exact Upd.alloc hn _) (fun hn => ?_)
                clear hK K
                try simp only [Act.put, List.setIfInBounds_toArray, List.set_cons_zero, List.set_cons_succ]
                refine wpAnyH_ready (rs := [9]) (by kernel_rfl) (by simp) ?_
                refine AllReadyH.cons (o := { dst := some 81, op := Op.call { callee := Callee.builtin Builtin.append, args := #[Operand.tmp 75, Operand.tmp 80], argTypes := #[25, 25] }, type := 25, pos := "law.go:76", after := #[{ on := 3, ground := Ground.data }, { on := 8, ground := Ground.data }, { on := 7, ground := Ground.chain }], guard := none }) rfl (fun K hK => ?_) AllReadyH.nil
                refine stepT (.tmp 75) (.tmp 80) ht.txt hrt (by have := HPL.out.2; simp at this ⊢; omega) (by kernel_rfl) rfl rfl rfl ?_
                intro v8 wb htx haa
                obtain ⟨a8, n8, c8, rfl⟩ := htx.slice
                have hst := ht.stored haa htx
                have hn0 := hn
                have hbb := ht.cell.upd haa.upd ht.apart
                have hn := hn.trans haa.upd (fun k _ h => Or.inr (Or.inr h))
                refine hK.out _ _ (by first | exact hn | exact Upd.alloc hn _) (fun hn => ?_)
                clear hK K
                try simp only [Act.put, List.setIfInBounds_toArray, List.set_cons_zero, List.set_cons_succ]
                refine wpAnyH_take (i := 10) (oi := { dst := some 82, op := Op.nilCheck (Operand.tmp 72), type := 0, pos := "law.go:76", after := #[{ on := 0, ground := Ground.data }, { on := 0, ground := Ground.phase }, { on := 1, ground := Ground.phase }, { on := 2, ground := Ground.phase }, { on := 3, ground := Ground.phase }, { on := 4, ground := Ground.phase }, { on := 5, ground := Ground.phase }, { on := 6, ground := Ground.phase }, { on := 7, ground := Ground.phase }, { on := 8, ground := Ground.phase }, { on := 9, ground := Ground.phase }], guard := none }) (v := ?v38x8) rfl (by kernel_rfl) (by kernel_rfl) (by kernel_rfl) (fun _ _ _ h => h) (Or.inl ⟨by rfl, ?y38x8⟩) hn ?r38x8
                case y38x8 => (intro wS hS; (try go_simp); (try with_reducible rfl))
                try simp only [Act.put, List.setIfInBounds_toArray, List.set_cons_zero, List.set_cons_succ]
                refine wpAnyH_ready (rs := [11]) (by kernel_rfl) (by simp) ?_
                refine AllReadyH.cons (o := { dst := none, op := Op.store 25 (Operand.tmp 82) (Operand.tmp 81), type := 0, pos := "law.go:76", after := #[{ on := 10, ground := Ground.data }, { on := 9, ground := Ground.data }, { on := 9, ground := Ground.chain }, { on := 0, ground := Ground.phase }, { on := 1, ground := Ground.phase }, { on := 2, ground := Ground.phase }, { on := 3, ground := Ground.phase }, { on := 4, ground := Ground.phase }, { on := 5, ground := Ground.phase }, { on := 6, ground := Ground.phase }, { on := 7, ground := Ground.phase }, { on := 8, ground := Ground.phase }, { on := 9, ground := Ground.phase }], guard := none }) rfl (fun K hK => ?_) AllReadyH.nil
                have cb := hbb.c
                have fb := hbb.f
                go_simp
                have hn := hn0.trans hst.2.1 (fun k _ h => Or.inr h)
                refine hK.out _ _ (by first | exact hn | exact Upd.alloc hn _) (fun hn => ?_)
                clear hK K
                try simp only [Act.put, List.setIfInBounds_toArray, List.set_cons_zero, List.set_cons_succ]
                refine wpAnyH_done (by kernel_rfl) ?_ _
                go_wp2_with fail
                go_meet
                exact ⟨_, _, _, ⟨HAO.out, by rw [HD.out]; decide, hn, hst.1, (Grown.refl _ _).trans hsz hst.2.2, HSU.out.cur hc hst.2.1 (fun _ h => h)⟩⟩
              refine AllReadyH.cons (o := { dst := some 80, op := Op.buildSlice 25 1 #[(0, Operand.tmp 79)], type := 25, pos := "law.go:76", after := #[{ on := 7, ground := Ground.data }], guard := none }) rfl (fun K hK => ?_) AllReadyH.nil
              go_simp
              refine rowTStep [s] ?_
              intro W5 hn5 hrt
              have ht := ht.new hn5
              have hn := hn.thenNew hn5
              have hc := hc.new hn5
              have hsz := Nat.le_trans hsz hn5.size
              refine hK.out _ _ (by first | exact hn | exact Upd.alloc hn _) (fun hn => ?_)
              clear hK K
              try simp only [Act.put, List.setIfInBounds_toArray, List.set_cons_zero, List.set_cons_succ]
              refine wpAnyH_ready (rs := [3]) (by kernel_rfl) (by simp) ?_
              refine AllReadyH.cons (o := { dst := some 75, op := Op.load 25 (Operand.tmp 74), type := 25, pos := "law.go:76", after := #[{ on := 2, ground := Ground.data }], guard := none }) rfl (fun K hK => ?_) AllReadyH.nil
              have c := ht.cell.c
              go_simp
              refine hK.out _ _ (by first | exact hn | exact Upd.alloc hn _) (fun hn => ?_)
              clear hK K
              try simp only [Act.put, List.setIfInBounds_toArray, List.set_cons_zero, List.set_cons_succ]
              refine wpAnyH_ready (rs := [9]) (by kernel_rfl) (by simp) ?_
              refine AllReadyH.cons (o := { dst := some 81, op := Op.call { callee := Callee.builtin Builtin.append, args := #[Operand.tmp 75, Operand.tmp 80], argTypes := #[25, 25] }, type := 25, pos := "law.go:76", after := #[{ on := 3, ground := Ground.data }, { on := 8, ground := Ground.data }, { on := 7, ground := Ground.chain }], guard := none }) rfl (fun K hK => ?_) AllReadyH.nil
              refine stepT (.tmp 75) (.tmp 80) ht.txt hrt (by have := HPL.out.2; simp at this ⊢; omega) (by kernel_rfl) rfl rfl rfl ?_
              intro v8 wb htx haa
              obtain ⟨a8, n8, c8, rfl⟩ := htx.slice
              have hst := ht.stored haa htx
              have hn0 := hn
              have hbb := ht.cell.upd haa.upd ht.apart
              have hn := hn.trans haa.upd (fun k _ h => Or.inr (Or.inr h))
              refine hK.out _ _ (by first | exact hn | exact Upd.alloc hn _) (fun hn => ?_)
              clear hK K
              try simp only [Act.put, List.setIfInBounds_toArray, List.set_cons_zero, List.set_cons_succ]
              refine wpAnyH_take (i := 10) (oi := { dst := some 82, op := Op.nilCheck (Operand.tmp 72), type := 0, pos := "law.go:76", after := #[{ on := 0, ground := Ground.data }, { on := 0, ground := Ground.phase }, { on := 1, ground := Ground.phase }, { on := 2, ground := Ground.phase }, { on := 3, ground := Ground.phase }, { on := 4, ground := Ground.phase }, { on := 5, ground := Ground.phase }, { on := 6, ground := Ground.phase }, { on := 7, ground := Ground.phase }, { on := 8, ground := Ground.phase }, { on := 9, ground := Ground.phase }], guard := none }) (v := ?v38x9) rfl (by kernel_rfl) (by kernel_rfl) (by kernel_rfl) (fun _ _ _ h => h) (Or.inl ⟨by rfl, ?y38x9⟩) hn ?r38x9
              case y38x9 => (intro wS hS; (try go_simp); (try with_reducible rfl))
              try simp only [Act.put, List.setIfInBounds_toArray, List.set_cons_zero, List.set_cons_succ]
              refine wpAnyH_ready (rs := [11]) (by kernel_rfl) (by simp) ?_
              refine AllReadyH.cons (o := { dst := none, op := Op.store 25 (Operand.tmp 82) (Operand.tmp 81), type := 0, pos := "law.go:76", after := #[{ on := 10, ground := Ground.data }, { on := 9, ground := Ground.data }, { on := 9, ground := Ground.chain }, { on := 0, ground := Ground.phase }, { on := 1, ground := Ground.phase }, { on := 2, ground := Ground.phase }, { on := 3, ground := Ground.phase }, { on := 4, ground := Ground.phase }, { on := 5, ground := Ground.phase }, { on := 6, ground := Ground.phase }, { on := 7, ground := Ground.phase }, { on := 8, ground := Ground.phase }, { on := 9, ground := Ground.phase }], guard := none }) rfl (fun K hK => ?_) AllReadyH.nil
              have cb := hbb.c
              have fb := hbb.f
              go_simp
              have hn := hn0.trans hst.2.1 (fun k _ h => Or.inr h)
              refine hK.out _ _ (by first | exact hn | exact Upd.alloc hn _) (fun hn => ?_)
              clear hK K
              try simp only [Act.put, List.setIfInBounds_toArray, List.set_cons_zero, List.set_cons_succ]
              refine wpAnyH_done (by kernel_rfl) ?_ _
              go_wp2_with fail
              go_meet
              exact ⟨_, _, _, ⟨HAO.out, by rw [HD.out]; decide, hn, hst.1, (Grown.refl _ _).trans hsz hst.2.2, HSU.out.cur hc hst.2.1 (fun _ h => h)⟩⟩
          · skip
            have HCL : Hid (∀ W, New w4 W → Calls Try.prog 26 #[.pointer (some ⟨C, 0, none⟩), .agg #[.int .i64 a.x.b1, .int .i64 a.x.b2]] W (Got C vb bs lim strV (nameS bs lim (lenW a.x.b1 a.x.b2).may q) W)) := fun W hW => by
              have := Name_any (HQ.out.new hW) HIQ.out a.x.b1 a.x.b2 HFA.out.beh
              rw [nameO_nameS HIQ.out HFA.out.beh] at this
              exact this
            obtain ⟨x, hx⟩ : ∃ x, nameS bs lim (lenW a.x.b1 a.x.b2).may q = x := ⟨_, rfl⟩
            have HAO : Hid (askO bs lim a q = x) := by
              show _ = _
              unfold askO
              rw [HD.out, if_neg (by decide), if_neg (by decide), if_neg (by decide), if_neg (by decide)]
              exact hx
            rw [hx] at HCL
            go_wp2_with fail
            cases x with
            | up q' er =>
              have HGONE : Hid (∀ wd, New w4 wd → ∀ wa, Upd (· = C) wd wa → Cur wa C vb bs q' lim er → Did C vb bs lim O.2 wa (.panicked [{ v := gave C, recovered := false }]) ∧ Upd (SS C Bo u0) w wa ∧ ∃ u', Outs wa Bo u' (ds ++ O.1) ∧ Grown w u0 u') := by
                intro wd hnd wa hua hca
                obtain ⟨t, ht, -⟩ := HRT.out
                have h1 := IR.out.ho1
                have h2 := IR.out.ho2
                rw [ht, allO_up (by rw [HD.out]; decide) HAO.out] at h1 h2
                have hup : Upd (SS C Bo u) w4 wa := (New.upd hnd).trans hua (fun k _ h => Or.inl h)
                refine ⟨?_, ?_, u, ?_, (Grown.refl _ _).trans HN3.out.size IR.out.gr⟩
                · rw [h2]; exact ⟨rfl, hca⟩
                · exact ss_grow (U0.out.thenNew HN4.out) ((Grown.refl _ _).trans HN3.out.size IR.out.gr) hup
                · rw [h1, List.append_nil]; exact (HT.out.new hnd).upd hua (fun k hk e => HSU.out.co (by rw [← e]; exact hk))
              clear hx
              have hnn : New w4 w4.drew := (Upd.refl _ _).drew
              have hn : Upd (SS C Bo u) w4 w4.drew := (Upd.refl _ _).drew
              have hsz : w4.heap.size ≤ w4.drew.heap.size := Nat.le_refl _
              have ht := HT.out.new hnn
              refine wp_region_held_drew (S := (Upd (SS C Bo u) w4)) (by kernel_rfl) (by first | exact hn | exact (Upd.refl _ _).drew | exact Upd.drew (by assumption)) (fun hn => ?_)
              generalize w4.drew = wd at *
              refine wpAnyH_take (i := 0) (oi := { dst := some 85, op := Op.load 31 (Operand.tmp 5), type := 31, pos := "law.go:78", after := #[], guard := none }) (v := ?v39x1) rfl (by kernel_rfl) (by kernel_rfl) (by kernel_rfl) (fun _ _ _ h => h) (Or.inl ⟨by rfl, ?y39x1⟩) hn ?r39x1
              case y39x1 => (intro wS hS; have c := E5.out _ hS; (try go_simp); (try with_reducible rfl))
              try simp only [Act.put, List.setIfInBounds_toArray, List.set_cons_zero, List.set_cons_succ]
              refine wpAnyH_take (i := 1) (oi := { dst := some 86, op := Op.load 31 (Operand.tmp 5), type := 31, pos := "law.go:78", after := #[], guard := none }) (v := ?v39x2) rfl (by kernel_rfl) (by kernel_rfl) (by kernel_rfl) (fun _ _ _ h => h) (Or.inl ⟨by rfl, ?y39x2⟩) hn ?r39x2
              case y39x2 => (intro wS hS; have c := E5.out _ hS; (try go_simp); (try with_reducible rfl))
              try simp only [Act.put, List.setIfInBounds_toArray, List.set_cons_zero, List.set_cons_succ]
              refine wpAnyH_take (i := 2) (oi := { dst := some 87, op := Op.nilCheck (Operand.tmp 86), type := 0, pos := "law.go:78", after := #[{ on := 1, ground := Ground.data }], guard := none }) (v := ?v39x3) rfl (by kernel_rfl) (by kernel_rfl) (by kernel_rfl) (fun _ _ _ h => h) (Or.inl ⟨by rfl, ?y39x3⟩) hn ?r39x3
              case y39x3 => (intro wS hS; (try go_simp); (try with_reducible rfl))
              try simp only [Act.put, List.setIfInBounds_toArray, List.set_cons_zero, List.set_cons_succ]
              refine wpAnyH_take (i := 4) (oi := { dst := some 89, op := Op.load 29 (Operand.tmp 3), type := 29, pos := "law.go:78", after := #[], guard := none }) (v := ?v39x4) rfl (by kernel_rfl) (by kernel_rfl) (by kernel_rfl) (fun _ _ _ h => h) (Or.inl ⟨by rfl, ?y39x4⟩) hn ?r39x4
              case y39x4 => (intro wS hS; have c := E3.out _ hS; (try go_simp); (try with_reducible rfl))
              try simp only [Act.put, List.setIfInBounds_toArray, List.set_cons_zero, List.set_cons_succ]
              refine wpAnyH_take (i := 5) (oi := { dst := some 90, op := Op.fieldAddr 49 (Operand.tmp 7) 4, type := 0, pos := "law.go:78", after := #[], guard := none }) (v := ?v39x5) rfl (by kernel_rfl) (by kernel_rfl) (by kernel_rfl) (fun _ _ _ h => h) (Or.inl ⟨by rfl, ?y39x5⟩) hn ?r39x5
              case y39x5 => (intro wS hS; (try go_simp); (try with_reducible rfl))
              try simp only [Act.put, List.setIfInBounds_toArray, List.set_cons_zero, List.set_cons_succ]
              refine wpAnyH_take (i := 6) (oi := { dst := some 91, op := Op.fieldAddr 47 (Operand.tmp 90) 5, type := 0, pos := "law.go:78", after := #[{ on := 5, ground := Ground.data }], guard := none }) (v := ?v39x6) rfl (by kernel_rfl) (by kernel_rfl) (by kernel_rfl) (fun _ _ _ h => h) (Or.inl ⟨by rfl, ?y39x6⟩) hn ?r39x6
              case y39x6 => (intro wS hS; (try go_simp); (try with_reducible rfl))
              try simp only [Act.put, List.setIfInBounds_toArray, List.set_cons_zero, List.set_cons_succ]
              refine wpAnyH_take (i := 7) (oi := { dst := some 92, op := Op.load 44 (Operand.tmp 91), type := 44, pos := "law.go:78", after := #[{ on := 6, ground := Ground.data }], guard := none }) (v := ?v39x7) rfl (by kernel_rfl) (by kernel_rfl) (by kernel_rfl) (fun _ _ _ h => h) (Or.inl ⟨by rfl, ?y39x7⟩) hn ?r39x7
              case y39x7 => (intro wS hS; have c11 := CELL.out _ hS 11 _ rfl ; have c12 := CELL.out _ hS 12 _ rfl; (try go_simp); (try with_reducible rfl))
              try simp only [Act.put, List.setIfInBounds_toArray, List.set_cons_zero, List.set_cons_succ]
              refine wpAnyH_ready (rs := [3, 8]) (by kernel_rfl) (by simp) ?_
              refine AllReadyH.cons (o := { dst := some 88, op := Op.load 25 (Operand.tmp 87), type := 25, pos := "law.go:78", after := #[{ on := 2, ground := Ground.data }], guard := none }) rfl (fun K hK => ?_) ?_
              · skip
                have c := ht.cell.c
                go_simp
                refine hK.out _ _ (by first | exact hn | exact Upd.alloc hn _) (fun hn => ?_)
                clear hK K
                try simp only [Act.put, List.setIfInBounds_toArray, List.set_cons_zero, List.set_cons_succ]
                refine wpAnyH_ready (rs := [8]) (by kernel_rfl) (by simp) ?_
                refine AllReadyH.cons (o := { dst := some 93, op := Op.call { callee := Callee.value (Operand.func 24), args := #[Operand.tmp 92], argTypes := #[44] }, type := 68, pos := "law.go:78", after := #[{ on := 7, ground := Ground.data }], guard := none }) rfl (fun K hK => ?_) AllReadyH.nil
                go_simp
                refine (own_any _ _ _).mono ?_
                rintro e wa ⟨rfl, hna⟩
                go_wp2_with fail
                have ht := ht.new hna
                have hn := hn.thenNew hna
                have hnn := New.trans hnn hna
                have hsz := Nat.le_trans hsz hna.size
                refine hK.out _ _ (by first | exact hn | exact Upd.alloc hn _) (fun hn => ?_)
                clear hK K
                try simp only [Act.put, List.setIfInBounds_toArray, List.set_cons_zero, List.set_cons_succ]
                refine wpAnyH_ready (rs := [9]) (by kernel_rfl) (by simp) ?_
                refine AllReadyH.cons (o := { dst := some 94, op := Op.call { callee := Callee.value (Operand.func 26), args := #[Operand.tmp 89, Operand.tmp 93], argTypes := #[29, 68] }, type := 9, pos := "law.go:78", after := #[{ on := 4, ground := Ground.data }, { on := 8, ground := Ground.data }, { on := 8, ground := Ground.chain }], guard := none }) rfl (fun K hK => ?_) AllReadyH.nil
                go_simp
                refine (HCL.out _ hnn).mono ?_
                rintro e wa ⟨hua, rfl, hca⟩
                go_wp2_with fail
                have hg := HGONE.out _ hnn wa hua hca
                exact ⟨rfl, hg.2.1, hg.1, hg.2.2⟩
              refine AllReadyH.cons (o := { dst := some 93, op := Op.call { callee := Callee.value (Operand.func 24), args := #[Operand.tmp 92], argTypes := #[44] }, type := 68, pos := "law.go:78", after := #[{ on := 7, ground := Ground.data }], guard := none }) rfl (fun K hK => ?_) AllReadyH.nil
              go_simp
              refine (own_any _ _ _).mono ?_
              rintro e wa ⟨rfl, hna⟩
              go_wp2_with fail
              have ht := ht.new hna
              have hn := hn.thenNew hna
              have hnn := New.trans hnn hna
              have hsz := Nat.le_trans hsz hna.size
              refine hK.out _ _ (by first | exact hn | exact Upd.alloc hn _) (fun hn => ?_)
              clear hK K
              try simp only [Act.put, List.setIfInBounds_toArray, List.set_cons_zero, List.set_cons_succ]
              refine wpAnyH_ready (rs := [3, 9]) (by kernel_rfl) (by simp) ?_
              refine AllReadyH.cons (o := { dst := some 88, op := Op.load 25 (Operand.tmp 87), type := 25, pos := "law.go:78", after := #[{ on := 2, ground := Ground.data }], guard := none }) rfl (fun K hK => ?_) ?_
              · skip
                have c := ht.cell.c
                go_simp
                refine hK.out _ _ (by first | exact hn | exact Upd.alloc hn _) (fun hn => ?_)
                clear hK K
                try simp only [Act.put, List.setIfInBounds_toArray, List.set_cons_zero, List.set_cons_succ]
                refine wpAnyH_ready (rs := [9]) (by kernel_rfl) (by simp) ?_
                refine AllReadyH.cons (o := { dst := some 94, op := Op.call { callee := Callee.value (Operand.func 26), args := #[Operand.tmp 89, Operand.tmp 93], argTypes := #[29, 68] }, type := 9, pos := "law.go:78", after := #[{ on := 4, ground := Ground.data }, { on := 8, ground := Ground.data }, { on := 8, ground := Ground.chain }], guard := none }) rfl (fun K hK => ?_) AllReadyH.nil
                go_simp
                refine (HCL.out _ hnn).mono ?_
                rintro e wa ⟨hua, rfl, hca⟩
                go_wp2_with fail
                have hg := HGONE.out _ hnn wa hua hca
                exact ⟨rfl, hg.2.1, hg.1, hg.2.2⟩
              refine AllReadyH.cons (o := { dst := some 94, op := Op.call { callee := Callee.value (Operand.func 26), args := #[Operand.tmp 89, Operand.tmp 93], argTypes := #[29, 68] }, type := 9, pos := "law.go:78", after := #[{ on := 4, ground := Ground.data }, { on := 8, ground := Ground.data }, { on := 8, ground := Ground.chain }], guard := none }) rfl (fun K hK => ?_) AllReadyH.nil
              go_simp
              refine (HCL.out _ hnn).mono ?_
              rintro e wa ⟨hua, rfl, hca⟩
              go_wp2_with fail
              have hg := HGONE.out _ hnn wa hua hca
              exact ⟨rfl, hg.2.1, hg.1, hg.2.2⟩
            | ok ds1 q' =>
              clear hx
              have hnn : New w4 w4.drew := (Upd.refl _ _).drew
              have hn : Upd (SS C Bo u) w4 w4.drew := (Upd.refl _ _).drew
              have hsz : w4.heap.size ≤ w4.drew.heap.size := Nat.le_refl _
              have ht := HT.out.new hnn
              refine wp_region_held_drew (S := (Upd (SS C Bo u) w4)) (by kernel_rfl) (by first | exact hn | exact (Upd.refl _ _).drew | exact Upd.drew (by assumption)) (fun hn => ?_)
              generalize w4.drew = wd at *
              refine wpAnyH_take (i := 0) (oi := { dst := some 85, op := Op.load 31 (Operand.tmp 5), type := 31, pos := "law.go:78", after := #[], guard := none }) (v := ?v40x1) rfl (by kernel_rfl) (by kernel_rfl) (by kernel_rfl) (fun _ _ _ h => h) (Or.inl ⟨by rfl, ?y40x1⟩) hn ?r40x1
              case y40x1 => (intro wS hS; have c := E5.out _ hS; (try go_simp); (try with_reducible rfl))
              try simp only [Act.put, List.setIfInBounds_toArray, List.set_cons_zero, List.set_cons_succ]
              refine wpAnyH_take (i := 1) (oi := { dst := some 86, op := Op.load 31 (Operand.tmp 5), type := 31, pos := "law.go:78", after := #[], guard := none }) (v := ?v40x2) rfl (by kernel_rfl) (by kernel_rfl) (by kernel_rfl) (fun _ _ _ h => h) (Or.inl ⟨by rfl, ?y40x2⟩) hn ?r40x2
              case y40x2 => (intro wS hS; have c := E5.out _ hS; (try go_simp); (try with_reducible rfl))
              try simp only [Act.put, List.setIfInBounds_toArray, List.set_cons_zero, List.set_cons_succ]
              refine wpAnyH_take (i := 2) (oi := { dst := some 87, op := Op.nilCheck (Operand.tmp 86), type := 0, pos := "law.go:78", after := #[{ on := 1, ground := Ground.data }], guard := none }) (v := ?v40x3) rfl (by kernel_rfl) (by kernel_rfl) (by kernel_rfl) (fun _ _ _ h => h) (Or.inl ⟨by rfl, ?y40x3⟩) hn ?r40x3
              case y40x3 => (intro wS hS; (try go_simp); (try with_reducible rfl))
              try simp only [Act.put, List.setIfInBounds_toArray, List.set_cons_zero, List.set_cons_succ]
              refine wpAnyH_take (i := 4) (oi := { dst := some 89, op := Op.load 29 (Operand.tmp 3), type := 29, pos := "law.go:78", after := #[], guard := none }) (v := ?v40x4) rfl (by kernel_rfl) (by kernel_rfl) (by kernel_rfl) (fun _ _ _ h => h) (Or.inl ⟨by rfl, ?y40x4⟩) hn ?r40x4
              case y40x4 => (intro wS hS; have c := E3.out _ hS; (try go_simp); (try with_reducible rfl))
              try simp only [Act.put, List.setIfInBounds_toArray, List.set_cons_zero, List.set_cons_succ]
              refine wpAnyH_take (i := 5) (oi := { dst := some 90, op := Op.fieldAddr 49 (Operand.tmp 7) 4, type := 0, pos := "law.go:78", after := #[], guard := none }) (v := ?v40x5) rfl (by kernel_rfl) (by kernel_rfl) (by kernel_rfl) (fun _ _ _ h => h) (Or.inl ⟨by rfl, ?y40x5⟩) hn ?r40x5
              case y40x5 => (intro wS hS; (try go_simp); (try with_reducible rfl))
              try simp only [Act.put, List.setIfInBounds_toArray, List.set_cons_zero, List.set_cons_succ]
              refine wpAnyH_take (i := 6) (oi := { dst := some 91, op := Op.fieldAddr 47 (Operand.tmp 90) 5, type := 0, pos := "law.go:78", after := #[{ on := 5, ground := Ground.data }], guard := none }) (v := ?v40x6) rfl (by kernel_rfl) (by kernel_rfl) (by kernel_rfl) (fun _ _ _ h => h) (Or.inl ⟨by rfl, ?y40x6⟩) hn ?r40x6
              case y40x6 => (intro wS hS; (try go_simp); (try with_reducible rfl))
              try simp only [Act.put, List.setIfInBounds_toArray, List.set_cons_zero, List.set_cons_succ]
              refine wpAnyH_take (i := 7) (oi := { dst := some 92, op := Op.load 44 (Operand.tmp 91), type := 44, pos := "law.go:78", after := #[{ on := 6, ground := Ground.data }], guard := none }) (v := ?v40x7) rfl (by kernel_rfl) (by kernel_rfl) (by kernel_rfl) (fun _ _ _ h => h) (Or.inl ⟨by rfl, ?y40x7⟩) hn ?r40x7
              case y40x7 => (intro wS hS; have c11 := CELL.out _ hS 11 _ rfl ; have c12 := CELL.out _ hS 12 _ rfl; (try go_simp); (try with_reducible rfl))
              try simp only [Act.put, List.setIfInBounds_toArray, List.set_cons_zero, List.set_cons_succ]
              refine wpAnyH_ready (rs := [3, 8]) (by kernel_rfl) (by simp) ?_
              refine AllReadyH.cons (o := { dst := some 88, op := Op.load 25 (Operand.tmp 87), type := 25, pos := "law.go:78", after := #[{ on := 2, ground := Ground.data }], guard := none }) rfl (fun K hK => ?_) ?_
              · skip
                have c := ht.cell.c
                go_simp
                refine hK.out _ _ (by first | exact hn | exact Upd.alloc hn _) (fun hn => ?_)
                clear hK K
                try simp only [Act.put, List.setIfInBounds_toArray, List.set_cons_zero, List.set_cons_succ]
                refine wpAnyH_ready (rs := [8]) (by kernel_rfl) (by simp) ?_
                refine AllReadyH.cons (o := { dst := some 93, op := Op.call { callee := Callee.value (Operand.func 24), args := #[Operand.tmp 92], argTypes := #[44] }, type := 68, pos := "law.go:78", after := #[{ on := 7, ground := Ground.data }], guard := none }) rfl (fun K hK => ?_) AllReadyH.nil
                go_simp
                refine (own_any _ _ _).mono ?_
                rintro e wa ⟨rfl, hna⟩
                go_wp2_with fail
                have ht := ht.new hna
                have hn := hn.thenNew hna
                have hnn := New.trans hnn hna
                have hsz := Nat.le_trans hsz hna.size
                refine hK.out _ _ (by first | exact hn | exact Upd.alloc hn _) (fun hn => ?_)
                clear hK K
                try simp only [Act.put, List.setIfInBounds_toArray, List.set_cons_zero, List.set_cons_succ]
                refine wpAnyH_ready (rs := [9]) (by kernel_rfl) (by simp) ?_
                refine AllReadyH.cons (o := { dst := some 94, op := Op.call { callee := Callee.value (Operand.func 26), args := #[Operand.tmp 89, Operand.tmp 93], argTypes := #[29, 68] }, type := 9, pos := "law.go:78", after := #[{ on := 4, ground := Ground.data }, { on := 8, ground := Ground.data }, { on := 8, ground := Ground.chain }], guard := none }) rfl (fun K hK => ?_) AllReadyH.nil
                go_simp
                refine (HCL.out _ hnn).mono ?_
                rintro e wa ⟨hua, rfl, hc⟩
                go_wp2_with fail
                have ht := ht.upd hua (fun k hk e => HSU.out.co (by rw [← e]; exact hk))
                have hn := hn.trans hua (fun k _ h => Or.inl h)
                have hsz := Nat.le_trans hsz hua.size
                refine hK.out _ _ (by first | exact hn | exact Upd.alloc hn _) (fun hn => ?_)
                clear hK K
                try simp only [Act.put, List.setIfInBounds_toArray, List.set_cons_zero, List.set_cons_succ]
                refine wpAnyH_ready (rs := [10]) (by kernel_rfl) (by simp) ?_
                refine AllReadyH.cons (o := { dst := some 95, op := Op.buildSlice 25 1 #[(0, Operand.tmp 94)], type := 25, pos := "law.go:78", after := #[{ on := 9, ground := Ground.data }], guard := none }) rfl (fun K hK => ?_) AllReadyH.nil
                go_simp
                refine rowTStep [ds1] ?_
                intro W5 hna hrt
                have ht := ht.new hna
                have hn := hn.thenNew hna
                have hc := hc.new hna
                have hsz := Nat.le_trans hsz hna.size
                refine hK.out _ _ (by first | exact hn | exact Upd.alloc hn _) (fun hn => ?_)
                clear hK K
                try simp only [Act.put, List.setIfInBounds_toArray, List.set_cons_zero, List.set_cons_succ]
                refine wpAnyH_ready (rs := [11]) (by kernel_rfl) (by simp) ?_
                refine AllReadyH.cons (o := { dst := some 96, op := Op.call { callee := Callee.builtin Builtin.append, args := #[Operand.tmp 88, Operand.tmp 95], argTypes := #[25, 25] }, type := 25, pos := "law.go:78", after := #[{ on := 3, ground := Ground.data }, { on := 10, ground := Ground.data }, { on := 9, ground := Ground.chain }], guard := none }) rfl (fun K hK => ?_) AllReadyH.nil
                refine stepT (.tmp 88) (.tmp 95) ht.txt hrt (by have := HPL.out.2; simp at this ⊢; omega) (by kernel_rfl) rfl rfl rfl ?_
                intro v8 wb htx haa
                obtain ⟨a8, n8, c8, rfl⟩ := htx.slice
                have hst := ht.stored haa htx
                have hn0 := hn
                have hbb := ht.cell.upd haa.upd ht.apart
                have hn := hn.trans haa.upd (fun k _ h => Or.inr (Or.inr h))
                refine hK.out _ _ (by first | exact hn | exact Upd.alloc hn _) (fun hn => ?_)
                clear hK K
                try simp only [Act.put, List.setIfInBounds_toArray, List.set_cons_zero, List.set_cons_succ]
                refine wpAnyH_take (i := 12) (oi := { dst := some 97, op := Op.nilCheck (Operand.tmp 85), type := 0, pos := "law.go:78", after := #[{ on := 0, ground := Ground.data }, { on := 0, ground := Ground.phase }, { on := 1, ground := Ground.phase }, { on := 2, ground := Ground.phase }, { on := 3, ground := Ground.phase }, { on := 4, ground := Ground.phase }, { on := 5, ground := Ground.phase }, { on := 6, ground := Ground.phase }, { on := 7, ground := Ground.phase }, { on := 8, ground := Ground.phase }, { on := 9, ground := Ground.phase }, { on := 10, ground := Ground.phase }, { on := 11, ground := Ground.phase }], guard := none }) (v := ?v40x8) rfl (by kernel_rfl) (by kernel_rfl) (by kernel_rfl) (fun _ _ _ h => h) (Or.inl ⟨by rfl, ?y40x8⟩) hn ?r40x8
                case y40x8 => (intro wS hS; (try go_simp); (try with_reducible rfl))
                try simp only [Act.put, List.setIfInBounds_toArray, List.set_cons_zero, List.set_cons_succ]
                refine wpAnyH_ready (rs := [13]) (by kernel_rfl) (by simp) ?_
                refine AllReadyH.cons (o := { dst := none, op := Op.store 25 (Operand.tmp 97) (Operand.tmp 96), type := 0, pos := "law.go:78", after := #[{ on := 12, ground := Ground.data }, { on := 11, ground := Ground.data }, { on := 11, ground := Ground.chain }, { on := 0, ground := Ground.phase }, { on := 1, ground := Ground.phase }, { on := 2, ground := Ground.phase }, { on := 3, ground := Ground.phase }, { on := 4, ground := Ground.phase }, { on := 5, ground := Ground.phase }, { on := 6, ground := Ground.phase }, { on := 7, ground := Ground.phase }, { on := 8, ground := Ground.phase }, { on := 9, ground := Ground.phase }, { on := 10, ground := Ground.phase }, { on := 11, ground := Ground.phase }], guard := none }) rfl (fun K hK => ?_) AllReadyH.nil
                have cb := hbb.c
                have fb := hbb.f
                go_simp
                have hn := hn0.trans hst.2.1 (fun k _ h => Or.inr h)
                refine hK.out _ _ (by first | exact hn | exact Upd.alloc hn _) (fun hn => ?_)
                clear hK K
                try simp only [Act.put, List.setIfInBounds_toArray, List.set_cons_zero, List.set_cons_succ]
                refine wpAnyH_done (by kernel_rfl) ?_ _
                go_wp2_with fail
                go_meet
                exact ⟨_, _, _, ⟨HAO.out, by rw [HD.out]; decide, hn, hst.1, (Grown.refl _ _).trans hsz hst.2.2, HSU.out.cur hc hst.2.1 (fun _ h => h)⟩⟩
              refine AllReadyH.cons (o := { dst := some 93, op := Op.call { callee := Callee.value (Operand.func 24), args := #[Operand.tmp 92], argTypes := #[44] }, type := 68, pos := "law.go:78", after := #[{ on := 7, ground := Ground.data }], guard := none }) rfl (fun K hK => ?_) AllReadyH.nil
              go_simp
              refine (own_any _ _ _).mono ?_
              rintro e wa ⟨rfl, hna⟩
              go_wp2_with fail
              have ht := ht.new hna
              have hn := hn.thenNew hna
              have hnn := New.trans hnn hna
              have hsz := Nat.le_trans hsz hna.size
              refine hK.out _ _ (by first | exact hn | exact Upd.alloc hn _) (fun hn => ?_)
              clear hK K
              try simp only [Act.put, List.setIfInBounds_toArray, List.set_cons_zero, List.set_cons_succ]
              refine wpAnyH_ready (rs := [3, 9]) (by kernel_rfl) (by simp) ?_
              refine AllReadyH.cons (o := { dst := some 88, op := Op.load 25 (Operand.tmp 87), type := 25, pos := "law.go:78", after := #[{ on := 2, ground := Ground.data }], guard := none }) rfl (fun K hK => ?_) ?_
              · skip
                have c := ht.cell.c
                go_simp
                refine hK.out _ _ (by first | exact hn | exact Upd.alloc hn _) (fun hn => ?_)
                clear hK K
                try simp only [Act.put, List.setIfInBounds_toArray, List.set_cons_zero, List.set_cons_succ]
                refine wpAnyH_ready (rs := [9]) (by kernel_rfl) (by simp) ?_
                refine AllReadyH.cons (o := { dst := some 94, op := Op.call { callee := Callee.value (Operand.func 26), args := #[Operand.tmp 89, Operand.tmp 93], argTypes := #[29, 68] }, type := 9, pos := "law.go:78", after := #[{ on := 4, ground := Ground.data }, { on := 8, ground := Ground.data }, { on := 8, ground := Ground.chain }], guard := none }) rfl (fun K hK => ?_) AllReadyH.nil
                go_simp
                refine (HCL.out _ hnn).mono ?_
                rintro e wa ⟨hua, rfl, hc⟩
                go_wp2_with fail
                have ht := ht.upd hua (fun k hk e => HSU.out.co (by rw [← e]; exact hk))
                have hn := hn.trans hua (fun k _ h => Or.inl h)
                have hsz := Nat.le_trans hsz hua.size
                refine hK.out _ _ (by first | exact hn | exact Upd.alloc hn _) (fun hn => ?_)
                clear hK K
                try simp only [Act.put, List.setIfInBounds_toArray, List.set_cons_zero, List.set_cons_succ]
                refine wpAnyH_ready (rs := [10]) (by kernel_rfl) (by simp) ?_
                refine AllReadyH.cons (o := { dst := some 95, op := Op.buildSlice 25 1 #[(0, Operand.tmp 94)], type := 25, pos := "law.go:78", after := #[{ on := 9, ground := Ground.data }], guard := none }) rfl (fun K hK => ?_) AllReadyH.nil
                go_simp
                refine rowTStep [ds1] ?_
                intro W5 hna hrt
                have ht := ht.new hna
                have hn := hn.thenNew hna
                have hc := hc.new hna
                have hsz := Nat.le_trans hsz hna.size
                refine hK.out _ _ (by first | exact hn | exact Upd.alloc hn _) (fun hn => ?_)
                clear hK K
                try simp only [Act.put, List.setIfInBounds_toArray, List.set_cons_zero, List.set_cons_succ]
                refine wpAnyH_ready (rs := [11]) (by kernel_rfl) (by simp) ?_
                refine AllReadyH.cons (o := { dst := some 96, op := Op.call { callee := Callee.builtin Builtin.append, args := #[Operand.tmp 88, Operand.tmp 95], argTypes := #[25, 25] }, type := 25, pos := "law.go:78", after := #[{ on := 3, ground := Ground.data }, { on := 10, ground := Ground.data }, { on := 9, ground := Ground.chain }], guard := none }) rfl (fun K hK => ?_) AllReadyH.nil
                refine stepT (.tmp 88) (.tmp 95) ht.txt hrt (by have := HPL.out.2; simp at this ⊢; omega) (by kernel_rfl) rfl rfl rfl ?_
                intro v8 wb htx haa
                obtain ⟨a8, n8, c8, rfl⟩ := htx.slice
                have hst := ht.stored haa htx
                have hn0 := hn
                have hbb := ht.cell.upd haa.upd ht.apart
                have hn := hn.trans haa.upd (fun k _ h => Or.inr (Or.inr h))
                refine hK.out _ _ (by first | exact hn | exact Upd.alloc hn _) (fun hn => ?_)
                clear hK K
                try simp only [Act.put, List.setIfInBounds_toArray, List.set_cons_zero, List.set_cons_succ]
                refine wpAnyH_take (i := 12) (oi := { dst := some 97, op := Op.nilCheck (Operand.tmp 85), type := 0, pos := "law.go:78", after := #[{ on := 0, ground := Ground.data }, { on := 0, ground := Ground.phase }, { on := 1, ground := Ground.phase }, { on := 2, ground := Ground.phase }, { on := 3, ground := Ground.phase }, { on := 4, ground := Ground.phase }, { on := 5, ground := Ground.phase }, { on := 6, ground := Ground.phase }, { on := 7, ground := Ground.phase }, { on := 8, ground := Ground.phase }, { on := 9, ground := Ground.phase }, { on := 10, ground := Ground.phase }, { on := 11, ground := Ground.phase }], guard := none }) (v := ?v40x9) rfl (by kernel_rfl) (by kernel_rfl) (by kernel_rfl) (fun _ _ _ h => h) (Or.inl ⟨by rfl, ?y40x9⟩) hn ?r40x9
                case y40x9 => (intro wS hS; (try go_simp); (try with_reducible rfl))
                try simp only [Act.put, List.setIfInBounds_toArray, List.set_cons_zero, List.set_cons_succ]
                refine wpAnyH_ready (rs := [13]) (by kernel_rfl) (by simp) ?_
                refine AllReadyH.cons (o := { dst := none, op := Op.store 25 (Operand.tmp 97) (Operand.tmp 96), type := 0, pos := "law.go:78", after := #[{ on := 12, ground := Ground.data }, { on := 11, ground := Ground.data }, { on := 11, ground := Ground.chain }, { on := 0, ground := Ground.phase }, { on := 1, ground := Ground.phase }, { on := 2, ground := Ground.phase }, { on := 3, ground := Ground.phase }, { on := 4, ground := Ground.phase }, { on := 5, ground := Ground.phase }, { on := 6, ground := Ground.phase }, { on := 7, ground := Ground.phase }, { on := 8, ground := Ground.phase }, { on := 9, ground := Ground.phase }, { on := 10, ground := Ground.phase }, { on := 11, ground := Ground.phase }], guard := none }) rfl (fun K hK => ?_) AllReadyH.nil
                have cb := hbb.c
                have fb := hbb.f
                go_simp
                have hn := hn0.trans hst.2.1 (fun k _ h => Or.inr h)
                refine hK.out _ _ (by first | exact hn | exact Upd.alloc hn _) (fun hn => ?_)
                clear hK K
                try simp only [Act.put, List.setIfInBounds_toArray, List.set_cons_zero, List.set_cons_succ]
                refine wpAnyH_done (by kernel_rfl) ?_ _
                go_wp2_with fail
                go_meet
                exact ⟨_, _, _, ⟨HAO.out, by rw [HD.out]; decide, hn, hst.1, (Grown.refl _ _).trans hsz hst.2.2, HSU.out.cur hc hst.2.1 (fun _ h => h)⟩⟩
              refine AllReadyH.cons (o := { dst := some 94, op := Op.call { callee := Callee.value (Operand.func 26), args := #[Operand.tmp 89, Operand.tmp 93], argTypes := #[29, 68] }, type := 9, pos := "law.go:78", after := #[{ on := 4, ground := Ground.data }, { on := 8, ground := Ground.data }, { on := 8, ground := Ground.chain }], guard := none }) rfl (fun K hK => ?_) AllReadyH.nil
              go_simp
              refine (HCL.out _ hnn).mono ?_
              rintro e wa ⟨hua, rfl, hc⟩
              go_wp2_with fail
              have ht := ht.upd hua (fun k hk e => HSU.out.co (by rw [← e]; exact hk))
              have hn := hn.trans hua (fun k _ h => Or.inl h)
              have hsz := Nat.le_trans hsz hua.size
              refine hK.out _ _ (by first | exact hn | exact Upd.alloc hn _) (fun hn => ?_)
              clear hK K
              try simp only [Act.put, List.setIfInBounds_toArray, List.set_cons_zero, List.set_cons_succ]
              refine wpAnyH_ready (rs := [3, 10]) (by kernel_rfl) (by simp) ?_
              refine AllReadyH.cons (o := { dst := some 88, op := Op.load 25 (Operand.tmp 87), type := 25, pos := "law.go:78", after := #[{ on := 2, ground := Ground.data }], guard := none }) rfl (fun K hK => ?_) ?_
              · skip
                have c := ht.cell.c
                go_simp
                refine hK.out _ _ (by first | exact hn | exact Upd.alloc hn _) (fun hn => ?_)
                clear hK K
                try simp only [Act.put, List.setIfInBounds_toArray, List.set_cons_zero, List.set_cons_succ]
                refine wpAnyH_ready (rs := [10]) (by kernel_rfl) (by simp) ?_
                refine AllReadyH.cons (o := { dst := some 95, op := Op.buildSlice 25 1 #[(0, Operand.tmp 94)], type := 25, pos := "law.go:78", after := #[{ on := 9, ground := Ground.data }], guard := none }) rfl (fun K hK => ?_) AllReadyH.nil
                go_simp
                refine rowTStep [ds1] ?_
                intro W5 hna hrt
                have ht := ht.new hna
                have hn := hn.thenNew hna
                have hc := hc.new hna
                have hsz := Nat.le_trans hsz hna.size
                refine hK.out _ _ (by first | exact hn | exact Upd.alloc hn _) (fun hn => ?_)
                clear hK K
                try simp only [Act.put, List.setIfInBounds_toArray, List.set_cons_zero, List.set_cons_succ]
                refine wpAnyH_ready (rs := [11]) (by kernel_rfl) (by simp) ?_
                refine AllReadyH.cons (o := { dst := some 96, op := Op.call { callee := Callee.builtin Builtin.append, args := #[Operand.tmp 88, Operand.tmp 95], argTypes := #[25, 25] }, type := 25, pos := "law.go:78", after := #[{ on := 3, ground := Ground.data }, { on := 10, ground := Ground.data }, { on := 9, ground := Ground.chain }], guard := none }) rfl (fun K hK => ?_) AllReadyH.nil
                refine stepT (.tmp 88) (.tmp 95) ht.txt hrt (by have := HPL.out.2; simp at this ⊢; omega) (by kernel_rfl) rfl rfl rfl ?_
                intro v8 wb htx haa
                obtain ⟨a8, n8, c8, rfl⟩ := htx.slice
                have hst := ht.stored haa htx
                have hn0 := hn
                have hbb := ht.cell.upd haa.upd ht.apart
                have hn := hn.trans haa.upd (fun k _ h => Or.inr (Or.inr h))
                refine hK.out _ _ (by first | exact hn | exact Upd.alloc hn _) (fun hn => ?_)
                clear hK K
                try simp only [Act.put, List.setIfInBounds_toArray, List.set_cons_zero, List.set_cons_succ]
                refine wpAnyH_take (i := 12) (oi := { dst := some 97, op := Op.nilCheck (Operand.tmp 85), type := 0, pos := "law.go:78", after := #[{ on := 0, ground := Ground.data }, { on := 0, ground := Ground.phase }, { on := 1, ground := Ground.phase }, { on := 2, ground := Ground.phase }, { on := 3, ground := Ground.phase }, { on := 4, ground := Ground.phase }, { on := 5, ground := Ground.phase }, { on := 6, ground := Ground.phase }, { on := 7, ground := Ground.phase }, { on := 8, ground := Ground.phase }, { on := 9, ground := Ground.phase }, { on := 10, ground := Ground.phase }, { on := 11, ground := Ground.phase }], guard := none }) (v := ?v40x10) rfl (by kernel_rfl) (by kernel_rfl) (by kernel_rfl) (fun _ _ _ h => h) (Or.inl ⟨by rfl, ?y40x10⟩) hn ?r40x10
                case y40x10 => (intro wS hS; (try go_simp); (try with_reducible rfl))
                try simp only [Act.put, List.setIfInBounds_toArray, List.set_cons_zero, List.set_cons_succ]
                refine wpAnyH_ready (rs := [13]) (by kernel_rfl) (by simp) ?_
                refine AllReadyH.cons (o := { dst := none, op := Op.store 25 (Operand.tmp 97) (Operand.tmp 96), type := 0, pos := "law.go:78", after := #[{ on := 12, ground := Ground.data }, { on := 11, ground := Ground.data }, { on := 11, ground := Ground.chain }, { on := 0, ground := Ground.phase }, { on := 1, ground := Ground.phase }, { on := 2, ground := Ground.phase }, { on := 3, ground := Ground.phase }, { on := 4, ground := Ground.phase }, { on := 5, ground := Ground.phase }, { on := 6, ground := Ground.phase }, { on := 7, ground := Ground.phase }, { on := 8, ground := Ground.phase }, { on := 9, ground := Ground.phase }, { on := 10, ground := Ground.phase }, { on := 11, ground := Ground.phase }], guard := none }) rfl (fun K hK => ?_) AllReadyH.nil
                have cb := hbb.c
                have fb := hbb.f
                go_simp
                have hn := hn0.trans hst.2.1 (fun k _ h => Or.inr h)
                refine hK.out _ _ (by first | exact hn | exact Upd.alloc hn _) (fun hn => ?_)
                clear hK K
                try simp only [Act.put, List.setIfInBounds_toArray, List.set_cons_zero, List.set_cons_succ]
                refine wpAnyH_done (by kernel_rfl) ?_ _
                go_wp2_with fail
                go_meet
                exact ⟨_, _, _, ⟨HAO.out, by rw [HD.out]; decide, hn, hst.1, (Grown.refl _ _).trans hsz hst.2.2, HSU.out.cur hc hst.2.1 (fun _ h => h)⟩⟩
              refine AllReadyH.cons (o := { dst := some 95, op := Op.buildSlice 25 1 #[(0, Operand.tmp 94)], type := 25, pos := "law.go:78", after := #[{ on := 9, ground := Ground.data }], guard := none }) rfl (fun K hK => ?_) AllReadyH.nil
              go_simp
              refine rowTStep [ds1] ?_
              intro W5 hna hrt
              have ht := ht.new hna
              have hn := hn.thenNew hna
              have hc := hc.new hna
              have hsz := Nat.le_trans hsz hna.size
              refine hK.out _ _ (by first | exact hn | exact Upd.alloc hn _) (fun hn => ?_)
              clear hK K
              try simp only [Act.put, List.setIfInBounds_toArray, List.set_cons_zero, List.set_cons_succ]
              refine wpAnyH_ready (rs := [3]) (by kernel_rfl) (by simp) ?_
              refine AllReadyH.cons (o := { dst := some 88, op := Op.load 25 (Operand.tmp 87), type := 25, pos := "law.go:78", after := #[{ on := 2, ground := Ground.data }], guard := none }) rfl (fun K hK => ?_) AllReadyH.nil
              have c := ht.cell.c
              go_simp
              refine hK.out _ _ (by first | exact hn | exact Upd.alloc hn _) (fun hn => ?_)
              clear hK K
              try simp only [Act.put, List.setIfInBounds_toArray, List.set_cons_zero, List.set_cons_succ]
              refine wpAnyH_ready (rs := [11]) (by kernel_rfl) (by simp) ?_
              refine AllReadyH.cons (o := { dst := some 96, op := Op.call { callee := Callee.builtin Builtin.append, args := #[Operand.tmp 88, Operand.tmp 95], argTypes := #[25, 25] }, type := 25, pos := "law.go:78", after := #[{ on := 3, ground := Ground.data }, { on := 10, ground := Ground.data }, { on := 9, ground := Ground.chain }], guard := none }) rfl (fun K hK => ?_) AllReadyH.nil
              refine stepT (.tmp 88) (.tmp 95) ht.txt hrt (by have := HPL.out.2; simp at this ⊢; omega) (by kernel_rfl) rfl rfl rfl ?_
              intro v8 wb htx haa
              obtain ⟨a8, n8, c8, rfl⟩ := htx.slice
              have hst := ht.stored haa htx
              have hn0 := hn
              have hbb := ht.cell.upd haa.upd ht.apart
              have hn := hn.trans haa.upd (fun k _ h => Or.inr (Or.inr h))
              refine hK.out _ _ (by first | exact hn | exact Upd.alloc hn _) (fun hn => ?_)
              clear hK K
              try simp only [Act.put, List.setIfInBounds_toArray, List.set_cons_zero, List.set_cons_succ]
              refine wpAnyH_take (i := 12) (oi := { dst := some 97, op := Op.nilCheck (Operand.tmp 85), type := 0, pos := "law.go:78", after := #[{ on := 0, ground := Ground.data }, { on := 0, ground := Ground.phase }, { on := 1, ground := Ground.phase }, { on := 2, ground := Ground.phase }, { on := 3, ground := Ground.phase }, { on := 4, ground := Ground.phase }, { on := 5, ground := Ground.phase }, { on := 6, ground := Ground.phase }, { on := 7, ground := Ground.phase }, { on := 8, ground := Ground.phase }, { on := 9, ground := Ground.phase }, { on := 10, ground := Ground.phase }, { on := 11, ground := Ground.phase }], guard := none }) (v := ?v40x11) rfl (by kernel_rfl) (by kernel_rfl) (by kernel_rfl) (fun _ _ _ h => h) (Or.inl ⟨by rfl, ?y40x11⟩) hn ?r40x11
              case y40x11 => (intro wS hS; (try go_simp); (try with_reducible rfl))
              try simp only [Act.put, List.setIfInBounds_toArray, List.set_cons_zero, List.set_cons_succ]
              refine wpAnyH_ready (rs := [13]) (by kernel_rfl) (by simp) ?_
              refine AllReadyH.cons (o := { dst := none, op := Op.store 25 (Operand.tmp 97) (Operand.tmp 96), type := 0, pos := "law.go:78", after := #[{ on := 12, ground := Ground.data }, { on := 11, ground := Ground.data }, { on := 11, ground := Ground.chain }, { on := 0, ground := Ground.phase }, { on := 1, ground := Ground.phase }, { on := 2, ground := Ground.phase }, { on := 3, ground := Ground.phase }, { on := 4, ground := Ground.phase }, { on := 5, ground := Ground.phase }, { on := 6, ground := Ground.phase }, { on := 7, ground := Ground.phase }, { on := 8, ground := Ground.phase }, { on := 9, ground := Ground.phase }, { on := 10, ground := Ground.phase }, { on := 11, ground := Ground.phase }], guard := none }) rfl (fun K hK => ?_) AllReadyH.nil
              have cb := hbb.c
              have fb := hbb.f
              go_simp
              have hn := hn0.trans hst.2.1 (fun k _ h => Or.inr h)
              refine hK.out _ _ (by first | exact hn | exact Upd.alloc hn _) (fun hn => ?_)
              clear hK K
              try simp only [Act.put, List.setIfInBounds_toArray, List.set_cons_zero, List.set_cons_succ]
              refine wpAnyH_done (by kernel_rfl) ?_ _
              go_wp2_with fail
              go_meet
              exact ⟨_, _, _, ⟨HAO.out, by rw [HD.out]; decide, hn, hst.1, (Grown.refl _ _).trans hsz hst.2.2, HSU.out.cur hc hst.2.1 (fun _ h => h)⟩⟩
          · have e1 : w4.cell? ⟨wr.heap.size, 1, none⟩ = some (.int .i64 a.n) := CELL.out _ (Upd.refl _ _) 1 _ rfl
            obtain ⟨O5, hO5⟩ : ∃ O5, allO bs (l.drop (i + 1)) (limO a.n lim q) q = O5 := ⟨_, rfl⟩
            have HAL : Hid (O = (pre ++ O5.1, withinO (limO a.n lim q) O5.2)) := by
              obtain ⟨t, ht, ht2⟩ := HRT.out
              have h1 := IR.out.ho1
              have h2 := IR.out.ho2
              have e : allO bs (a :: t) lim q = ((allO bs t (limO a.n lim q) q).1, withinO (limO a.n lim q) (allO bs t (limO a.n lim q) q).2) := by
                show (if a.doo % 6 = 5 then _ else _) = _
                rw [HD.out, if_pos rfl]
              rw [ht, e, ht2, hO5] at h1 h2
              exact Prod.ext h1 h2
            have hlim := limO_inv (n := a.n) HIQ.out
            have hin : ∀ q', O5.2 = .ok () q' → Inv bs.length (limO a.n lim q) q' := fun q' hq => allO_inv (l.drop (i + 1)) (limO a.n lim q) q hlim (by rw [hO5]; exact hq)
            have hS : ∀ k, S0 Bo u k → k < w4.heap.size := fun k hk => by
              rcases hk with e | e
              · have := HT.out.cell.lt; omega
              · exact HT.out.lt _ e
            have hK : ∀ a' b', Upd (· = C) a' b' → (∃ ux, Outs a' Bo ux (ds ++ pre ++ O5.1) ∧ Grown w4 u ux) → ∃ ux, Outs b' Bo ux (ds ++ pre ++ O5.1) ∧ Grown w4 u ux := fun a' b' hu ⟨ux, ho, hg⟩ =>
              ⟨ux, ho.upd hu (fun k hk e => (HSU.out.grow hg HQ.out.lt (fun hne k hk => HQ.out.rd.there hne k hk)).co (by rw [← e]; exact hk)), hg⟩
            have hdo : ∀ w1, Upd (· = C) w4 w1 → Cur w1 C vb bs q (limO a.n lim q) 0 → Calls Try.prog 28 #[.pointer (some ⟨w.heap.size, 0, none⟩), .pointer (some ⟨w.heap.size + 1, 0, none⟩), .pointer (some ⟨Bi, 0, none⟩), .pointer (some ⟨w.heap.size + 1 + 1, 0, none⟩)] w1
                (fun e w2 => Upd (fun k => k = C ∨ S0 Bo u k) w1 w2 ∧ Did C vb bs (limO a.n lim q) O5.2 w2 e ∧ ∃ ux, Outs w2 Bo ux (ds ++ pre ++ O5.1) ∧ Grown w4 u ux) := by
              intro w1 hu1 hc1
              have hss : Upd (SS C Bo u) w4 w1 := hu1.mono (fun k _ h => Or.inl h)
              refine asked2_any C Bo w.heap.size (w.heap.size + 1) Bi (w.heap.size + 1 + 1) b o l.length cv i w1 _ (E3.out _ hss) (E4.out _ hss) (((IR.out.bi.new HN4.out).upd hss HBI.out).c) (E5.out _ hss) hlt HCAP.out (by omega) (fun v => RdA w Bk v (l.drop (i + 1))) (fun _ => RdA.tail HR.out (i + 1) hlt) (fun hce => ?_) ?_ ?_
              · rw [List.drop_of_length_le (by have := HCAP.out; omega)]
                exact RdA.empty HR.out HNE0.out _ _
              · cases h5 : O5.2 with
                | ok z q5 => exact .inl (fun e w' h => h.2.1.1)
                | up q5 er => exact .inr (fun e w' h => ⟨_, h.2.1.1⟩)
              · intro W v hW hv
                have U1 : Upd (SS C Bo u0) w W := ((U0.out.thenNew HN4.out).trans hu1 (fun k _ h => Or.inl h)).thenNew hW
                refine (IH.out (l.drop (i + 1)) v Bk W C Bo vb bs (limO a.n lim q) q u (ds ++ pre) (by simp; omega) (by simp; omega) (hv.upd U1 (fun k hk => (HBK.out k hk).2)) (fun k hk => ⟨Nat.lt_of_lt_of_le (HBK.out k hk).1 U1.size, ?_⟩)
                  (fun a ha => HW.out a (List.mem_of_mem_drop ha)) (fun a ha => HF.out a (List.mem_of_mem_drop ha)) (by have := HPL.out.1; simp only [List.length_drop]; omega) HSU.out (hc1.new hW) hlim ((HT.out.upd hu1 (fun k hk e => HSU.out.co (by rw [← e]; exact hk))).new hW)).mono ?_
                · rintro (e | e | e)
                  · exact (HBK.out k hk).2 (.inl e)
                  · exact (HBK.out k hk).2 (.inr (.inl e))
                  · rcases IR.out.gr _ e with h1 | h1
                    · exact (HBK.out k hk).2 (.inr (.inr h1))
                    · have := (HBK.out k hk).1; omega
                · rintro e w2 ⟨ha, hb, ux, ho, hg⟩
                  rw [hO5] at hb ho
                  exact ⟨(New.upd hW).trans ha (fun _ _ h => h), hb, ux, ho, (Grown.refl _ _).trans (Nat.le_trans hu1.size hW.size) hg⟩
            have HWI := hid (Within_any HQ.out HIQ.out a.n HWF.out.n.1 HWF.out.n.2 28 #[.pointer (some ⟨w.heap.size, 0, none⟩), .pointer (some ⟨w.heap.size + 1, 0, none⟩), .pointer (some ⟨Bi, 0, none⟩), .pointer (some ⟨w.heap.size + 1 + 1, 0, none⟩)] (fun _ _ => rfl) (S0 Bo u) hS O5.2 _ hK hin hdo)
            have GW : Hid (Grown w u0 u) := (Grown.refl _ _).trans HN3.out.size IR.out.gr
            have UW4 := hid (U0.out.thenNew HN4.out)
            have HSZ : Hid (w.heap.size ≤ w4.heap.size) := UW4.out.size
            clear hS hK hin hdo hlim hO5
            go_wp2_with fail
            refine HWI.out.mono ?_
            rintro e w5 ⟨hu5, hd5, ux, ho5, hg5⟩
            have UU5 := hid (ss_grow UW4.out GW.out hu5)
            have GG5 := hid (GW.out.trans HSZ.out hg5)
            have HO5 := hid ho5
            have HD5 := hid hd5
            obtain ⟨z5, hz5⟩ : ∃ z5, withinO (limO a.n lim q) O5.2 = z5 := ⟨_, rfl⟩
            have HZ5 := hid hz5
            rw [hz5] at hd5
            clear hu5 ho5 hg5 hz5
            cases z5 with
            | ok z q5 =>
              obtain ⟨rfl, hc5⟩ := hd5
              have HC5 := hid hc5
              clear hc5
              go_wp2_with fail
              go_end0
              rw [HAL.out]
              refine ⟨UU5.out, ?_, ux, by rw [← List.append_assoc]; exact HO5.out, GG5.out⟩
              exact HD5.out
            | up q5 er =>
              obtain ⟨rfl, hc5⟩ := hd5
              have HC5 := hid hc5
              clear hc5
              go_wp2_with fail
              refine ⟨rfl, ?_⟩
              rw [HAL.out]
              refine ⟨UU5.out, ?_, ux, by rw [← List.append_assoc]; exact HO5.out, GG5.out⟩
              exact HD5.out
        case rest =>
          obtain ⟨s, q', u', hj⟩ := hcut
          obtain ⟨w5, rfl⟩ : ∃ w5, w5 = wc := ⟨_, rfl⟩
          have HJ := hid hj
          have hiq' := askO_inv HIQ.out hj.ao
          have HIQ5 := hid hiq'
          have hql := hiq'.place
          have hqb := hiq'.len
          have hrr := hiq'.rest
          obtain ⟨rn, hrn⟩ : ∃ rn : Nat, rest lim q' = rn := ⟨(rest lim q').toNat, by omega⟩
          have HRN : Hid ((rest lim q').toNat = rn) := by show _ = _; omega
          rw [hrn] at hrr
          have hrb : rn ≤ 1099511627776 := by omega
          have HRE := hid hrn
          have hw45 := hj.up.size
          have GR5 : Hid (Grown w3 u0 u') := IR.out.gr.trans (Nat.le_trans IR.out.up.size HN4.out.size) hj.gr
          have HNS5 : Hid (∀ k, w.heap.size ≤ k → k < w3.heap.size → ¬ SS C Bo u' k) := HGR.out u' GR5.out
          have HSU5 := hid (HSEP.out.grow GR5.out (Nat.lt_of_lt_of_le hC HN3.out.size) (fun hne k hk => Nat.lt_of_lt_of_le (HVL.out hne k hk) HN3.out.size))
          have hB4 : One1 w4 Bi (.int .i64 i) := IR.out.bi.new HN4.out
          have HB5 := hid (hB4.upd hj.up HBI.out)
          have HBI5 : Hid (¬ SS C Bo u' Bi) := by
            rintro (e | e | e)
            · omega
            · omega
            · rcases HJ.out.gr _ e with h1 | h1
              · exact IR.out.ui h1
              · have := hB4.lt; omega
          have E53 : Hid (∀ W, Upd (SS C Bo u') w5 W → W.cell? ⟨w.heap.size, 0, none⟩ = some (.pointer (some ⟨C, 0, none⟩))) := fun W hW => (((HK3.out.new HN4.out).upd HJ.out.up (HNS.out _ (Nat.le_refl _) (by omega))).upd hW (HNS5.out _ (Nat.le_refl _) (by omega))).c
          have E55 : Hid (∀ W, Upd (SS C Bo u') w5 W → W.cell? ⟨w.heap.size + 1 + 1, 0, none⟩ = some (.pointer (some ⟨Bo, 0, none⟩))) := fun W hW => (((HK5.out.new HN4.out).upd HJ.out.up (HNS.out _ (by omega) (by omega))).upd hW (HNS5.out _ (by omega) (by omega))).c
          have HT5 := hid hj.out
          have HQ5 := hid hj.cur
          have HNB := hid (fun n h W => number_any n h W)
          have HRS : Hid (∀ W, New w5 W → Calls Try.prog 19 #[.pointer (some ⟨C, 0, none⟩)] W fun e w' => e = .returned (.int .i64 rn) ∧ New W w') := fun W hW => by
            have := Rest_any (HQ5.out.new hW) HIQ5.out
            rw [HRE.out] at this
            exact this
          clear hj hiq' hrr hrn hB4
          have HDR : Hid (l.drop i = a :: l.drop (i + 1)) := by
            obtain ⟨t, ht, ht2⟩ := HRT.out
            show _ = _
            rw [ht, ht2]
          have hwq : IntKind.u64.wrap ((q' : Nat) : Int) = ((q' : Nat) : Int) := by simp only [IntKind.wrap, IntKind.bits, IntKind.signed, Bool.false_and, Bool.false_eq_true, if_false]; omega
          have hwr : IntKind.u64.wrap ((rn : Nat) : Int) = ((rn : Nat) : Int) := by simp only [IntKind.wrap, IntKind.bits, IntKind.signed, Bool.false_and, Bool.false_eq_true, if_false]; omega
          go_upto_region 18 with fail
          have hnn : New w5 w5.drew := (Upd.refl _ _).drew
          have hn : Upd (SS C Bo u') w5 w5.drew := (Upd.refl _ _).drew
          have hsz : w5.heap.size ≤ w5.drew.heap.size := Nat.le_refl _
          have ht := HT5.out.new hnn
          have hc := HQ5.out.new hnn
          refine wp_region_noPanic ?_
          refine wp_region_held_drew (S := (Upd (SS C Bo u') w5)) (by kernel_rfl) (by first | exact hn | exact (Upd.refl _ _).drew | exact Upd.drew (by assumption)) (fun hn => ?_)
          generalize w5.drew = wd at *
          refine wpAnyH_take (i := 0) (oi := { dst := some 105, op := Op.load 31 (Operand.tmp 5), type := 31, pos := "law.go:83", after := #[], guard := none }) (v := ?v41x1) rfl (by kernel_rfl) (by kernel_rfl) (by kernel_rfl) (fun _ _ _ h => h) (Or.inl ⟨by rfl, ?y41x1⟩) hn ?r41x1
          case y41x1 => (intro wS hS; have c := E55.out _ hS; (try go_simp); (try with_reducible rfl))
          try simp only [Act.put, List.setIfInBounds_toArray, List.set_cons_zero, List.set_cons_succ]
          refine wpAnyH_take (i := 1) (oi := { dst := some 106, op := Op.load 31 (Operand.tmp 5), type := 31, pos := "law.go:83", after := #[], guard := none }) (v := ?v41x2) rfl (by kernel_rfl) (by kernel_rfl) (by kernel_rfl) (fun _ _ _ h => h) (Or.inl ⟨by rfl, ?y41x2⟩) hn ?r41x2
          case y41x2 => (intro wS hS; have c := E55.out _ hS; (try go_simp); (try with_reducible rfl))
          try simp only [Act.put, List.setIfInBounds_toArray, List.set_cons_zero, List.set_cons_succ]
          refine wpAnyH_take (i := 2) (oi := { dst := some 107, op := Op.nilCheck (Operand.tmp 106), type := 0, pos := "law.go:83", after := #[{ on := 1, ground := Ground.data }], guard := none }) (v := ?v41x3) rfl (by kernel_rfl) (by kernel_rfl) (by kernel_rfl) (fun _ _ _ h => h) (Or.inl ⟨by rfl, ?y41x3⟩) hn ?r41x3
          case y41x3 => (intro wS hS; (try go_simp); (try with_reducible rfl))
          try simp only [Act.put, List.setIfInBounds_toArray, List.set_cons_zero, List.set_cons_succ]
          refine wpAnyH_take (i := 4) (oi := { dst := some 109, op := Op.load 29 (Operand.tmp 3), type := 29, pos := "law.go:83", after := #[], guard := none }) (v := ?v41x4) rfl (by kernel_rfl) (by kernel_rfl) (by kernel_rfl) (fun _ _ _ h => h) (Or.inl ⟨by rfl, ?y41x4⟩) hn ?r41x4
          case y41x4 => (intro wS hS; have c := E53.out _ hS; (try go_simp); (try with_reducible rfl))
          try simp only [Act.put, List.setIfInBounds_toArray, List.set_cons_zero, List.set_cons_succ]
          refine wpAnyH_take (i := 8) (oi := { dst := some 113, op := Op.load 29 (Operand.tmp 3), type := 29, pos := "law.go:83", after := #[], guard := none }) (v := ?v41x5) rfl (by kernel_rfl) (by kernel_rfl) (by kernel_rfl) (fun _ _ _ h => h) (Or.inl ⟨by rfl, ?y41x5⟩) hn ?r41x5
          case y41x5 => (intro wS hS; have c := E53.out _ hS; (try go_simp); (try with_reducible rfl))
          try simp only [Act.put, List.setIfInBounds_toArray, List.set_cons_zero, List.set_cons_succ]
          refine wpAnyH_ready (rs := [3, 5]) (by kernel_rfl) (by simp) ?_
          refine AllReadyH.cons (o := { dst := some 108, op := Op.load 25 (Operand.tmp 107), type := 25, pos := "law.go:83", after := #[{ on := 2, ground := Ground.data }], guard := none }) rfl (fun K hK => ?_) ?_
          · skip
            have c := ht.cell.c
            go_simp
            refine hK.out _ _ (by first | exact hn | exact Upd.alloc hn _) (fun hn => ?_)
            clear hK K
            try simp only [Act.put, List.setIfInBounds_toArray, List.set_cons_zero, List.set_cons_succ]
            refine wpAnyH_ready (rs := [5]) (by kernel_rfl) (by simp) ?_
            refine AllReadyH.cons (o := { dst := some 110, op := Op.call { callee := Callee.value (Operand.func 29), args := #[Operand.tmp 109], argTypes := #[29] }, type := 3, pos := "law.go:83", after := #[{ on := 4, ground := Ground.data }], guard := none }) rfl (fun K hK => ?_) AllReadyH.nil
            go_simp
            refine (At_any hc).mono ?_
            rintro e wa ⟨rfl, rfl⟩
            go_wp2_with fail
            refine hK.out _ _ (by first | exact hn | exact Upd.alloc hn _) (fun hn => ?_)
            clear hK K
            try simp only [Act.put, List.setIfInBounds_toArray, List.set_cons_zero, List.set_cons_succ]
            refine wpAnyH_take (i := 6) (oi := { dst := some 111, op := Op.convert 3 42 (Operand.tmp 110), type := 42, pos := "law.go:83", after := #[{ on := 5, ground := Ground.data }], guard := none }) (v := ?v41x6) rfl (by kernel_rfl) (by kernel_rfl) (by kernel_rfl) (fun _ _ _ h => h) (Or.inl ⟨by rfl, ?y41x6⟩) hn ?r41x6
            case y41x6 => (intro wS hS; (try go_simp); (try with_reducible rfl))
            try simp only [Act.put, List.setIfInBounds_toArray, List.set_cons_zero, List.set_cons_succ]
            refine wpAnyH_ready (rs := [7]) (by kernel_rfl) (by simp) ?_
            refine AllReadyH.cons (o := { dst := some 112, op := Op.call { callee := Callee.value (Operand.func 20), args := #[Operand.tmp 111], argTypes := #[42] }, type := 9, pos := "law.go:83", after := #[{ on := 6, ground := Ground.data }, { on := 5, ground := Ground.chain }], guard := none }) rfl (fun K hK => ?_) AllReadyH.nil
            go_simp
            refine (HNB.out q' (by omega) _).mono ?_
            rintro e wa ⟨rfl, hna⟩
            unfold numV
            go_wp2_with fail
            have ht := ht.new hna
            have hn := hn.thenNew hna
            have hnn := New.trans hnn hna
            have hc := hc.new hna
            have hsz := Nat.le_trans hsz hna.size
            refine hK.out _ _ (by first | exact hn | exact Upd.alloc hn _) (fun hn => ?_)
            clear hK K
            try simp only [Act.put, List.setIfInBounds_toArray, List.set_cons_zero, List.set_cons_succ]
            refine wpAnyH_ready (rs := [9]) (by kernel_rfl) (by simp) ?_
            refine AllReadyH.cons (o := { dst := some 114, op := Op.call { callee := Callee.value (Operand.func 19), args := #[Operand.tmp 113], argTypes := #[29] }, type := 3, pos := "law.go:83", after := #[{ on := 8, ground := Ground.data }, { on := 7, ground := Ground.chain }], guard := none }) rfl (fun K hK => ?_) AllReadyH.nil
            go_simp
            refine (HRS.out _ hnn).mono ?_
            rintro e wa ⟨rfl, hna⟩
            go_wp2_with fail
            have ht := ht.new hna
            have hn := hn.thenNew hna
            have hnn := New.trans hnn hna
            have hc := hc.new hna
            have hsz := Nat.le_trans hsz hna.size
            refine hK.out _ _ (by first | exact hn | exact Upd.alloc hn _) (fun hn => ?_)
            clear hK K
            try simp only [Act.put, List.setIfInBounds_toArray, List.set_cons_zero, List.set_cons_succ]
            refine wpAnyH_take (i := 10) (oi := { dst := some 115, op := Op.convert 3 42 (Operand.tmp 114), type := 42, pos := "law.go:83", after := #[{ on := 9, ground := Ground.data }], guard := none }) (v := ?v41x7) rfl (by kernel_rfl) (by kernel_rfl) (by kernel_rfl) (fun _ _ _ h => h) (Or.inl ⟨by rfl, ?y41x7⟩) hn ?r41x7
            case y41x7 => (intro wS hS; (try go_simp); (try with_reducible rfl))
            try simp only [Act.put, List.setIfInBounds_toArray, List.set_cons_zero, List.set_cons_succ]
            refine wpAnyH_ready (rs := [11]) (by kernel_rfl) (by simp) ?_
            refine AllReadyH.cons (o := { dst := some 116, op := Op.call { callee := Callee.value (Operand.func 20), args := #[Operand.tmp 115], argTypes := #[42] }, type := 9, pos := "law.go:83", after := #[{ on := 10, ground := Ground.data }, { on := 9, ground := Ground.chain }], guard := none }) rfl (fun K hK => ?_) AllReadyH.nil
            go_simp
            refine (HNB.out rn (by omega) _).mono ?_
            rintro e wa ⟨rfl, hna⟩
            unfold numV
            go_wp2_with fail
            have ht := ht.new hna
            have hn := hn.thenNew hna
            have hnn := New.trans hnn hna
            have hc := hc.new hna
            have hsz := Nat.le_trans hsz hna.size
            refine hK.out _ _ (by first | exact hn | exact Upd.alloc hn _) (fun hn => ?_)
            clear hK K
            try simp only [Act.put, List.setIfInBounds_toArray, List.set_cons_zero, List.set_cons_succ]
            refine wpAnyH_ready (rs := [12]) (by kernel_rfl) (by simp) ?_
            refine AllReadyH.cons (o := { dst := some 117, op := Op.buildSlice 25 2 #[(0, Operand.tmp 112), (1, Operand.tmp 116)], type := 25, pos := "law.go:83", after := #[{ on := 7, ground := Ground.data }, { on := 11, ground := Ground.data }], guard := none }) rfl (fun K hK => ?_) AllReadyH.nil
            go_simp
            refine rowTStep [numL q' 8, numL rn 8] ?_
            intro W5 hna hrt
            have ht := ht.new hna
            have hn := hn.thenNew hna
            have hnn := New.trans hnn hna
            have hc := hc.new hna
            have hsz := Nat.le_trans hsz hna.size
            refine hK.out _ _ (by first | exact hn | exact Upd.alloc hn _) (fun hn => ?_)
            clear hK K
            try simp only [Act.put, List.setIfInBounds_toArray, List.set_cons_zero, List.set_cons_succ]
            refine wpAnyH_ready (rs := [13]) (by kernel_rfl) (by simp) ?_
            refine AllReadyH.cons (o := { dst := some 118, op := Op.call { callee := Callee.builtin Builtin.append, args := #[Operand.tmp 108, Operand.tmp 117], argTypes := #[25, 25] }, type := 25, pos := "law.go:83", after := #[{ on := 3, ground := Ground.data }, { on := 12, ground := Ground.data }, { on := 11, ground := Ground.chain }], guard := none }) rfl (fun K hK => ?_) AllReadyH.nil
            refine stepT (.tmp 108) (.tmp 117) ht.txt hrt (by have := HPL.out.2; simp at this ⊢; omega) (by kernel_rfl) rfl rfl rfl ?_
            intro v8 wb htx haa
            obtain ⟨a8, n8, c8, rfl⟩ := htx.slice
            have hst := ht.stored haa htx
            have hn0 := hn
            have hbb := ht.cell.upd haa.upd ht.apart
            have hn := hn.trans haa.upd (fun k _ h => Or.inr (Or.inr h))
            refine hK.out _ _ (by first | exact hn | exact Upd.alloc hn _) (fun hn => ?_)
            clear hK K
            try simp only [Act.put, List.setIfInBounds_toArray, List.set_cons_zero, List.set_cons_succ]
            refine wpAnyH_take (i := 14) (oi := { dst := some 119, op := Op.nilCheck (Operand.tmp 105), type := 0, pos := "law.go:83", after := #[{ on := 0, ground := Ground.data }, { on := 0, ground := Ground.phase }, { on := 1, ground := Ground.phase }, { on := 2, ground := Ground.phase }, { on := 3, ground := Ground.phase }, { on := 4, ground := Ground.phase }, { on := 5, ground := Ground.phase }, { on := 6, ground := Ground.phase }, { on := 7, ground := Ground.phase }, { on := 8, ground := Ground.phase }, { on := 9, ground := Ground.phase }, { on := 10, ground := Ground.phase }, { on := 11, ground := Ground.phase }, { on := 12, ground := Ground.phase }, { on := 13, ground := Ground.phase }], guard := none }) (v := ?v41x8) rfl (by kernel_rfl) (by kernel_rfl) (by kernel_rfl) (fun _ _ _ h => h) (Or.inl ⟨by rfl, ?y41x8⟩) hn ?r41x8
            case y41x8 => (intro wS hS; (try go_simp); (try with_reducible rfl))
            try simp only [Act.put, List.setIfInBounds_toArray, List.set_cons_zero, List.set_cons_succ]
            refine wpAnyH_ready (rs := [15]) (by kernel_rfl) (by simp) ?_
            refine AllReadyH.cons (o := { dst := none, op := Op.store 25 (Operand.tmp 119) (Operand.tmp 118), type := 0, pos := "law.go:83", after := #[{ on := 14, ground := Ground.data }, { on := 13, ground := Ground.data }, { on := 13, ground := Ground.chain }, { on := 0, ground := Ground.phase }, { on := 1, ground := Ground.phase }, { on := 2, ground := Ground.phase }, { on := 3, ground := Ground.phase }, { on := 4, ground := Ground.phase }, { on := 5, ground := Ground.phase }, { on := 6, ground := Ground.phase }, { on := 7, ground := Ground.phase }, { on := 8, ground := Ground.phase }, { on := 9, ground := Ground.phase }, { on := 10, ground := Ground.phase }, { on := 11, ground := Ground.phase }, { on := 12, ground := Ground.phase }, { on := 13, ground := Ground.phase }], guard := none }) rfl (fun K hK => ?_) AllReadyH.nil
            have cb := hbb.c
            have fb := hbb.f
            go_simp
            have hn := hn0.trans hst.2.1 (fun k _ h => Or.inr h)
            refine hK.out _ _ (by first | exact hn | exact Upd.alloc hn _) (fun hn => ?_)
            clear hK K
            try simp only [Act.put, List.setIfInBounds_toArray, List.set_cons_zero, List.set_cons_succ]
            refine wpAnyH_done (by kernel_rfl) ?_ _
            refine NoPanic.normal ?_
            have HNX := hid (IR.out.next HN4.out HJ.out HDR.out hst.1 hn ((Grown.refl _ _).trans hsz hst.2.2) (HSU5.out.cur hc hst.2.1 (fun _ h => h)) HIQ5.out HRN.out)
            have hb6 := HB5.out.upd hn HBI5.out
            have e6 := hb6.c
            clear hst hb6 hn hn0 hbb ht hc cb fb haa htx
            generalize wb.setCell ⟨Bo, 0, none⟩ (.slice a8 n8 c8) = w6 at *
            go_wp2_with fail
            go_roundg (l.length - (i + 1))
            case measure => omega
            case rel => exact ⟨i + 1, _, _, _, q', rfl, rfl, by omega, HNX.out⟩
          refine AllReadyH.cons (o := { dst := some 110, op := Op.call { callee := Callee.value (Operand.func 29), args := #[Operand.tmp 109], argTypes := #[29] }, type := 3, pos := "law.go:83", after := #[{ on := 4, ground := Ground.data }], guard := none }) rfl (fun K hK => ?_) AllReadyH.nil
          go_simp
          refine (At_any hc).mono ?_
          rintro e wa ⟨rfl, rfl⟩
          go_wp2_with fail
          refine hK.out _ _ (by first | exact hn | exact Upd.alloc hn _) (fun hn => ?_)
          clear hK K
          try simp only [Act.put, List.setIfInBounds_toArray, List.set_cons_zero, List.set_cons_succ]
          refine wpAnyH_take (i := 6) (oi := { dst := some 111, op := Op.convert 3 42 (Operand.tmp 110), type := 42, pos := "law.go:83", after := #[{ on := 5, ground := Ground.data }], guard := none }) (v := ?v41x9) rfl (by kernel_rfl) (by kernel_rfl) (by kernel_rfl) (fun _ _ _ h => h) (Or.inl ⟨by rfl, ?y41x9⟩) hn ?r41x9
          case y41x9 => (intro wS hS; (try go_simp); (try with_reducible rfl))
          try simp only [Act.put, List.setIfInBounds_toArray, List.set_cons_zero, List.set_cons_succ]
          refine wpAnyH_ready (rs := [3, 7]) (by kernel_rfl) (by simp) ?_
          refine AllReadyH.cons (o := { dst := some 108, op := Op.load 25 (Operand.tmp 107), type := 25, pos := "law.go:83", after := #[{ on := 2, ground := Ground.data }], guard := none }) rfl (fun K hK => ?_) ?_
          · skip
            have c := ht.cell.c
            go_simp
            refine hK.out _ _ (by first | exact hn | exact Upd.alloc hn _) (fun hn => ?_)
            clear hK K
            try simp only [Act.put, List.setIfInBounds_toArray, List.set_cons_zero, List.set_cons_succ]
            refine wpAnyH_ready (rs := [7]) (by kernel_rfl) (by simp) ?_
            refine AllReadyH.cons (o := { dst := some 112, op := Op.call { callee := Callee.value (Operand.func 20), args := #[Operand.tmp 111], argTypes := #[42] }, type := 9, pos := "law.go:83", after := #[{ on := 6, ground := Ground.data }, { on := 5, ground := Ground.chain }], guard := none }) rfl (fun K hK => ?_) AllReadyH.nil
            go_simp
            refine (HNB.out q' (by omega) _).mono ?_
            rintro e wa ⟨rfl, hna⟩
            unfold numV
            go_wp2_with fail
            have ht := ht.new hna
            have hn := hn.thenNew hna
            have hnn := New.trans hnn hna
            have hc := hc.new hna
            have hsz := Nat.le_trans hsz hna.size
            refine hK.out _ _ (by first | exact hn | exact Upd.alloc hn _) (fun hn => ?_)
            clear hK K
            try simp only [Act.put, List.setIfInBounds_toArray, List.set_cons_zero, List.set_cons_succ]
            refine wpAnyH_ready (rs := [9]) (by kernel_rfl) (by simp) ?_
            refine AllReadyH.cons (o := { dst := some 114, op := Op.call { callee := Callee.value (Operand.func 19), args := #[Operand.tmp 113], argTypes := #[29] }, type := 3, pos := "law.go:83", after := #[{ on := 8, ground := Ground.data }, { on := 7, ground := Ground.chain }], guard := none }) rfl (fun K hK => ?_) AllReadyH.nil
            go_simp
            refine (HRS.out _ hnn).mono ?_
            rintro e wa ⟨rfl, hna⟩
            go_wp2_with fail
            have ht := ht.new hna
            have hn := hn.thenNew hna
            have hnn := New.trans hnn hna
            have hc := hc.new hna
            have hsz := Nat.le_trans hsz hna.size
            refine hK.out _ _ (by first | exact hn | exact Upd.alloc hn _) (fun hn => ?_)
            clear hK K
            try simp only [Act.put, List.setIfInBounds_toArray, List.set_cons_zero, List.set_cons_succ]
            refine wpAnyH_take (i := 10) (oi := { dst := some 115, op := Op.convert 3 42 (Operand.tmp 114), type := 42, pos := "law.go:83", after := #[{ on := 9, ground := Ground.data }], guard := none }) (v := ?v41x10) rfl (by kernel_rfl) (by kernel_rfl) (by kernel_rfl) (fun _ _ _ h => h) (Or.inl ⟨by rfl, ?y41x10⟩) hn ?r41x10
            case y41x10 => (intro wS hS; (try go_simp); (try with_reducible rfl))
            try simp only [Act.put, List.setIfInBounds_toArray, List.set_cons_zero, List.set_cons_succ]
            refine wpAnyH_ready (rs := [11]) (by kernel_rfl) (by simp) ?_
            refine AllReadyH.cons (o := { dst := some 116, op := Op.call { callee := Callee.value (Operand.func 20), args := #[Operand.tmp 115], argTypes := #[42] }, type := 9, pos := "law.go:83", after := #[{ on := 10, ground := Ground.data }, { on := 9, ground := Ground.chain }], guard := none }) rfl (fun K hK => ?_) AllReadyH.nil
            go_simp
            refine (HNB.out rn (by omega) _).mono ?_
            rintro e wa ⟨rfl, hna⟩
            unfold numV
            go_wp2_with fail
            have ht := ht.new hna
            have hn := hn.thenNew hna
            have hnn := New.trans hnn hna
            have hc := hc.new hna
            have hsz := Nat.le_trans hsz hna.size
            refine hK.out _ _ (by first | exact hn | exact Upd.alloc hn _) (fun hn => ?_)
            clear hK K
            try simp only [Act.put, List.setIfInBounds_toArray, List.set_cons_zero, List.set_cons_succ]
            refine wpAnyH_ready (rs := [12]) (by kernel_rfl) (by simp) ?_
            refine AllReadyH.cons (o := { dst := some 117, op := Op.buildSlice 25 2 #[(0, Operand.tmp 112), (1, Operand.tmp 116)], type := 25, pos := "law.go:83", after := #[{ on := 7, ground := Ground.data }, { on := 11, ground := Ground.data }], guard := none }) rfl (fun K hK => ?_) AllReadyH.nil
            go_simp
            refine rowTStep [numL q' 8, numL rn 8] ?_
            intro W5 hna hrt
            have ht := ht.new hna
            have hn := hn.thenNew hna
            have hnn := New.trans hnn hna
            have hc := hc.new hna
            have hsz := Nat.le_trans hsz hna.size
            refine hK.out _ _ (by first | exact hn | exact Upd.alloc hn _) (fun hn => ?_)
            clear hK K
            try simp only [Act.put, List.setIfInBounds_toArray, List.set_cons_zero, List.set_cons_succ]
            refine wpAnyH_ready (rs := [13]) (by kernel_rfl) (by simp) ?_
            refine AllReadyH.cons (o := { dst := some 118, op := Op.call { callee := Callee.builtin Builtin.append, args := #[Operand.tmp 108, Operand.tmp 117], argTypes := #[25, 25] }, type := 25, pos := "law.go:83", after := #[{ on := 3, ground := Ground.data }, { on := 12, ground := Ground.data }, { on := 11, ground := Ground.chain }], guard := none }) rfl (fun K hK => ?_) AllReadyH.nil
            refine stepT (.tmp 108) (.tmp 117) ht.txt hrt (by have := HPL.out.2; simp at this ⊢; omega) (by kernel_rfl) rfl rfl rfl ?_
            intro v8 wb htx haa
            obtain ⟨a8, n8, c8, rfl⟩ := htx.slice
            have hst := ht.stored haa htx
            have hn0 := hn
            have hbb := ht.cell.upd haa.upd ht.apart
            have hn := hn.trans haa.upd (fun k _ h => Or.inr (Or.inr h))
            refine hK.out _ _ (by first | exact hn | exact Upd.alloc hn _) (fun hn => ?_)
            clear hK K
            try simp only [Act.put, List.setIfInBounds_toArray, List.set_cons_zero, List.set_cons_succ]
            refine wpAnyH_take (i := 14) (oi := { dst := some 119, op := Op.nilCheck (Operand.tmp 105), type := 0, pos := "law.go:83", after := #[{ on := 0, ground := Ground.data }, { on := 0, ground := Ground.phase }, { on := 1, ground := Ground.phase }, { on := 2, ground := Ground.phase }, { on := 3, ground := Ground.phase }, { on := 4, ground := Ground.phase }, { on := 5, ground := Ground.phase }, { on := 6, ground := Ground.phase }, { on := 7, ground := Ground.phase }, { on := 8, ground := Ground.phase }, { on := 9, ground := Ground.phase }, { on := 10, ground := Ground.phase }, { on := 11, ground := Ground.phase }, { on := 12, ground := Ground.phase }, { on := 13, ground := Ground.phase }], guard := none }) (v := ?v41x11) rfl (by kernel_rfl) (by kernel_rfl) (by kernel_rfl) (fun _ _ _ h => h) (Or.inl ⟨by rfl, ?y41x11⟩) hn ?r41x11
            case y41x11 => (intro wS hS; (try go_simp); (try with_reducible rfl))
            try simp only [Act.put, List.setIfInBounds_toArray, List.set_cons_zero, List.set_cons_succ]
            refine wpAnyH_ready (rs := [15]) (by kernel_rfl) (by simp) ?_
            refine AllReadyH.cons (o := { dst := none, op := Op.store 25 (Operand.tmp 119) (Operand.tmp 118), type := 0, pos := "law.go:83", after := #[{ on := 14, ground := Ground.data }, { on := 13, ground := Ground.data }, { on := 13, ground := Ground.chain }, { on := 0, ground := Ground.phase }, { on := 1, ground := Ground.phase }, { on := 2, ground := Ground.phase }, { on := 3, ground := Ground.phase }, { on := 4, ground := Ground.phase }, { on := 5, ground := Ground.phase }, { on := 6, ground := Ground.phase }, { on := 7, ground := Ground.phase }, { on := 8, ground := Ground.phase }, { on := 9, ground := Ground.phase }, { on := 10, ground := Ground.phase }, { on := 11, ground := Ground.phase }, { on := 12, ground := Ground.phase }, { on := 13, ground := Ground.phase }], guard := none }) rfl (fun K hK => ?_) AllReadyH.nil
            have cb := hbb.c
            have fb := hbb.f
            go_simp
            have hn := hn0.trans hst.2.1 (fun k _ h => Or.inr h)
            refine hK.out _ _ (by first | exact hn | exact Upd.alloc hn _) (fun hn => ?_)
            clear hK K
            try simp only [Act.put, List.setIfInBounds_toArray, List.set_cons_zero, List.set_cons_succ]
            refine wpAnyH_done (by kernel_rfl) ?_ _
            refine NoPanic.normal ?_
            have HNX := hid (IR.out.next HN4.out HJ.out HDR.out hst.1 hn ((Grown.refl _ _).trans hsz hst.2.2) (HSU5.out.cur hc hst.2.1 (fun _ h => h)) HIQ5.out HRN.out)
            have hb6 := HB5.out.upd hn HBI5.out
            have e6 := hb6.c
            clear hst hb6 hn hn0 hbb ht hc cb fb haa htx
            generalize wb.setCell ⟨Bo, 0, none⟩ (.slice a8 n8 c8) = w6 at *
            go_wp2_with fail
            go_roundg (l.length - (i + 1))
            case measure => omega
            case rel => exact ⟨i + 1, _, _, _, q', rfl, rfl, by omega, HNX.out⟩
          refine AllReadyH.cons (o := { dst := some 112, op := Op.call { callee := Callee.value (Operand.func 20), args := #[Operand.tmp 111], argTypes := #[42] }, type := 9, pos := "law.go:83", after := #[{ on := 6, ground := Ground.data }, { on := 5, ground := Ground.chain }], guard := none }) rfl (fun K hK => ?_) AllReadyH.nil
          go_simp
          refine (HNB.out q' (by omega) _).mono ?_
          rintro e wa ⟨rfl, hna⟩
          unfold numV
          go_wp2_with fail
          have ht := ht.new hna
          have hn := hn.thenNew hna
          have hnn := New.trans hnn hna
          have hc := hc.new hna
          have hsz := Nat.le_trans hsz hna.size
          refine hK.out _ _ (by first | exact hn | exact Upd.alloc hn _) (fun hn => ?_)
          clear hK K
          try simp only [Act.put, List.setIfInBounds_toArray, List.set_cons_zero, List.set_cons_succ]
          refine wpAnyH_ready (rs := [3, 9]) (by kernel_rfl) (by simp) ?_
          refine AllReadyH.cons (o := { dst := some 108, op := Op.load 25 (Operand.tmp 107), type := 25, pos := "law.go:83", after := #[{ on := 2, ground := Ground.data }], guard := none }) rfl (fun K hK => ?_) ?_
          · skip
            have c := ht.cell.c
            go_simp
            refine hK.out _ _ (by first | exact hn | exact Upd.alloc hn _) (fun hn => ?_)
            clear hK K
            try simp only [Act.put, List.setIfInBounds_toArray, List.set_cons_zero, List.set_cons_succ]
            refine wpAnyH_ready (rs := [9]) (by kernel_rfl) (by simp) ?_
            refine AllReadyH.cons (o := { dst := some 114, op := Op.call { callee := Callee.value (Operand.func 19), args := #[Operand.tmp 113], argTypes := #[29] }, type := 3, pos := "law.go:83", after := #[{ on := 8, ground := Ground.data }, { on := 7, ground := Ground.chain }], guard := none }) rfl (fun K hK => ?_) AllReadyH.nil
            go_simp
            refine (HRS.out _ hnn).mono ?_
            rintro e wa ⟨rfl, hna⟩
            go_wp2_with fail
            have ht := ht.new hna
            have hn := hn.thenNew hna
            have hnn := New.trans hnn hna
            have hc := hc.new hna
            have hsz := Nat.le_trans hsz hna.size
            refine hK.out _ _ (by first | exact hn | exact Upd.alloc hn _) (fun hn => ?_)
            clear hK K
            try simp only [Act.put, List.setIfInBounds_toArray, List.set_cons_zero, List.set_cons_succ]
            refine wpAnyH_take (i := 10) (oi := { dst := some 115, op := Op.convert 3 42 (Operand.tmp 114), type := 42, pos := "law.go:83", after := #[{ on := 9, ground := Ground.data }], guard := none }) (v := ?v41x12) rfl (by kernel_rfl) (by kernel_rfl) (by kernel_rfl) (fun _ _ _ h => h) (Or.inl ⟨by rfl, ?y41x12⟩) hn ?r41x12
            case y41x12 => (intro wS hS; (try go_simp); (try with_reducible rfl))
            try simp only [Act.put, List.setIfInBounds_toArray, List.set_cons_zero, List.set_cons_succ]
            refine wpAnyH_ready (rs := [11]) (by kernel_rfl) (by simp) ?_
            refine AllReadyH.cons (o := { dst := some 116, op := Op.call { callee := Callee.value (Operand.func 20), args := #[Operand.tmp 115], argTypes := #[42] }, type := 9, pos := "law.go:83", after := #[{ on := 10, ground := Ground.data }, { on := 9, ground := Ground.chain }], guard := none }) rfl (fun K hK => ?_) AllReadyH.nil
            go_simp
            refine (HNB.out rn (by omega) _).mono ?_
            rintro e wa ⟨rfl, hna⟩
            unfold numV
            go_wp2_with fail
            have ht := ht.new hna
            have hn := hn.thenNew hna
            have hnn := New.trans hnn hna
            have hc := hc.new hna
            have hsz := Nat.le_trans hsz hna.size
            refine hK.out _ _ (by first | exact hn | exact Upd.alloc hn _) (fun hn => ?_)
            clear hK K
            try simp only [Act.put, List.setIfInBounds_toArray, List.set_cons_zero, List.set_cons_succ]
            refine wpAnyH_ready (rs := [12]) (by kernel_rfl) (by simp) ?_
            refine AllReadyH.cons (o := { dst := some 117, op := Op.buildSlice 25 2 #[(0, Operand.tmp 112), (1, Operand.tmp 116)], type := 25, pos := "law.go:83", after := #[{ on := 7, ground := Ground.data }, { on := 11, ground := Ground.data }], guard := none }) rfl (fun K hK => ?_) AllReadyH.nil
            go_simp
            refine rowTStep [numL q' 8, numL rn 8] ?_
            intro W5 hna hrt
            have ht := ht.new hna
            have hn := hn.thenNew hna
            have hnn := New.trans hnn hna
            have hc := hc.new hna
            have hsz := Nat.le_trans hsz hna.size
            refine hK.out _ _ (by first | exact hn | exact Upd.alloc hn _) (fun hn => ?_)
            clear hK K
            try simp only [Act.put, List.setIfInBounds_toArray, List.set_cons_zero, List.set_cons_succ]
            refine wpAnyH_ready (rs := [13]) (by kernel_rfl) (by simp) ?_
            refine AllReadyH.cons (o := { dst := some 118, op := Op.call { callee := Callee.builtin Builtin.append, args := #[Operand.tmp 108, Operand.tmp 117], argTypes := #[25, 25] }, type := 25, pos := "law.go:83", after := #[{ on := 3, ground := Ground.data }, { on := 12, ground := Ground.data }, { on := 11, ground := Ground.chain }], guard := none }) rfl (fun K hK => ?_) AllReadyH.nil
            refine stepT (.tmp 108) (.tmp 117) ht.txt hrt (by have := HPL.out.2; simp at this ⊢; omega) (by kernel_rfl) rfl rfl rfl ?_
            intro v8 wb htx haa
            obtain ⟨a8, n8, c8, rfl⟩ := htx.slice
            have hst := ht.stored haa htx
            have hn0 := hn
            have hbb := ht.cell.upd haa.upd ht.apart
            have hn := hn.trans haa.upd (fun k _ h => Or.inr (Or.inr h))
            refine hK.out _ _ (by first | exact hn | exact Upd.alloc hn _) (fun hn => ?_)
            clear hK K
            try simp only [Act.put, List.setIfInBounds_toArray, List.set_cons_zero, List.set_cons_succ]
            refine wpAnyH_take (i := 14) (oi := { dst := some 119, op := Op.nilCheck (Operand.tmp 105), type := 0, pos := "law.go:83", after := #[{ on := 0, ground := Ground.data }, { on := 0, ground := Ground.phase }, { on := 1, ground := Ground.phase }, { on := 2, ground := Ground.phase }, { on := 3, ground := Ground.phase }, { on := 4, ground := Ground.phase }, { on := 5, ground := Ground.phase }, { on := 6, ground := Ground.phase }, { on := 7, ground := Ground.phase }, { on := 8, ground := Ground.phase }, { on := 9, ground := Ground.phase }, { on := 10, ground := Ground.phase }, { on := 11, ground := Ground.phase }, { on := 12, ground := Ground.phase }, { on := 13, ground := Ground.phase }], guard := none }) (v := ?v41x13) rfl (by kernel_rfl) (by kernel_rfl) (by kernel_rfl) (fun _ _ _ h => h) (Or.inl ⟨by rfl, ?y41x13⟩) hn ?r41x13
            case y41x13 => (intro wS hS; (try go_simp); (try with_reducible rfl))
            try simp only [Act.put, List.setIfInBounds_toArray, List.set_cons_zero, List.set_cons_succ]
            refine wpAnyH_ready (rs := [15]) (by kernel_rfl) (by simp) ?_
            refine AllReadyH.cons (o := { dst := none, op := Op.store 25 (Operand.tmp 119) (Operand.tmp 118), type := 0, pos := "law.go:83", after := #[{ on := 14, ground := Ground.data }, { on := 13, ground := Ground.data }, { on := 13, ground := Ground.chain }, { on := 0, ground := Ground.phase }, { on := 1, ground := Ground.phase }, { on := 2, ground := Ground.phase }, { on := 3, ground := Ground.phase }, { on := 4, ground := Ground.phase }, { on := 5, ground := Ground.phase }, { on := 6, ground := Ground.phase }, { on := 7, ground := Ground.phase }, { on := 8, ground := Ground.phase }, { on := 9, ground := Ground.phase }, { on := 10, ground := Ground.phase }, { on := 11, ground := Ground.phase }, { on := 12, ground := Ground.phase }, { on := 13, ground := Ground.phase }], guard := none }) rfl (fun K hK => ?_) AllReadyH.nil
            have cb := hbb.c
            have fb := hbb.f
            go_simp
            have hn := hn0.trans hst.2.1 (fun k _ h => Or.inr h)
            refine hK.out _ _ (by first | exact hn | exact Upd.alloc hn _) (fun hn => ?_)
            clear hK K
            try simp only [Act.put, List.setIfInBounds_toArray, List.set_cons_zero, List.set_cons_succ]
            refine wpAnyH_done (by kernel_rfl) ?_ _
            refine NoPanic.normal ?_
            have HNX := hid (IR.out.next HN4.out HJ.out HDR.out hst.1 hn ((Grown.refl _ _).trans hsz hst.2.2) (HSU5.out.cur hc hst.2.1 (fun _ h => h)) HIQ5.out HRN.out)
            have hb6 := HB5.out.upd hn HBI5.out
            have e6 := hb6.c
            clear hst hb6 hn hn0 hbb ht hc cb fb haa htx
            generalize wb.setCell ⟨Bo, 0, none⟩ (.slice a8 n8 c8) = w6 at *
            go_wp2_with fail
            go_roundg (l.length - (i + 1))
            case measure => omega
            case rel => exact ⟨i + 1, _, _, _, q', rfl, rfl, by omega, HNX.out⟩
          refine AllReadyH.cons (o := { dst := some 114, op := Op.call { callee := Callee.value (Operand.func 19), args := #[Operand.tmp 113], argTypes := #[29] }, type := 3, pos := "law.go:83", after := #[{ on := 8, ground := Ground.data }, { on := 7, ground := Ground.chain }], guard := none }) rfl (fun K hK => ?_) AllReadyH.nil
          go_simp
          refine (HRS.out _ hnn).mono ?_
          rintro e wa ⟨rfl, hna⟩
          go_wp2_with fail
          have ht := ht.new hna
          have hn := hn.thenNew hna
          have hnn := New.trans hnn hna
          have hc := hc.new hna
          have hsz := Nat.le_trans hsz hna.size
          refine hK.out _ _ (by first | exact hn | exact Upd.alloc hn _) (fun hn => ?_)
          clear hK K
          try simp only [Act.put, List.setIfInBounds_toArray, List.set_cons_zero, List.set_cons_succ]
          refine wpAnyH_take (i := 10) (oi := { dst := some 115, op := Op.convert 3 42 (Operand.tmp 114), type := 42, pos := "law.go:83", after := #[{ on := 9, ground := Ground.data }], guard := none }) (v := ?v41x14) rfl (by kernel_rfl) (by kernel_rfl) (by kernel_rfl) (fun _ _ _ h => h) (Or.inl ⟨by rfl, ?y41x14⟩) hn ?r41x14
          case y41x14 => (intro wS hS; (try go_simp); (try with_reducible rfl))
          try simp only [Act.put, List.setIfInBounds_toArray, List.set_cons_zero, List.set_cons_succ]
          refine wpAnyH_ready (rs := [3, 11]) (by kernel_rfl) (by simp) ?_
          refine AllReadyH.cons (o := { dst := some 108, op := Op.load 25 (Operand.tmp 107), type := 25, pos := "law.go:83", after := #[{ on := 2, ground := Ground.data }], guard := none }) rfl (fun K hK => ?_) ?_
          · skip
            have c := ht.cell.c
            go_simp
            refine hK.out _ _ (by first | exact hn | exact Upd.alloc hn _) (fun hn => ?_)
            clear hK K
            try simp only [Act.put, List.setIfInBounds_toArray, List.set_cons_zero, List.set_cons_succ]
            refine wpAnyH_ready (rs := [11]) (by kernel_rfl) (by simp) ?_
            refine AllReadyH.cons (o := { dst := some 116, op := Op.call { callee := Callee.value (Operand.func 20), args := #[Operand.tmp 115], argTypes := #[42] }, type := 9, pos := "law.go:83", after := #[{ on := 10, ground := Ground.data }, { on := 9, ground := Ground.chain }], guard := none }) rfl (fun K hK => ?_) AllReadyH.nil
            go_simp
            refine (HNB.out rn (by omega) _).mono ?_
            rintro e wa ⟨rfl, hna⟩
            unfold numV
            go_wp2_with fail
            have ht := ht.new hna
            have hn := hn.thenNew hna
            have hnn := New.trans hnn hna
            have hc := hc.new hna
            have hsz := Nat.le_trans hsz hna.size
            refine hK.out _ _ (by first | exact hn | exact Upd.alloc hn _) (fun hn => ?_)
            clear hK K
            try simp only [Act.put, List.setIfInBounds_toArray, List.set_cons_zero, List.set_cons_succ]
            refine wpAnyH_ready (rs := [12]) (by kernel_rfl) (by simp) ?_
            refine AllReadyH.cons (o := { dst := some 117, op := Op.buildSlice 25 2 #[(0, Operand.tmp 112), (1, Operand.tmp 116)], type := 25, pos := "law.go:83", after := #[{ on := 7, ground := Ground.data }, { on := 11, ground := Ground.data }], guard := none }) rfl (fun K hK => ?_) AllReadyH.nil
            go_simp
            refine rowTStep [numL q' 8, numL rn 8] ?_
            intro W5 hna hrt
            have ht := ht.new hna
            have hn := hn.thenNew hna
            have hnn := New.trans hnn hna
            have hc := hc.new hna
            have hsz := Nat.le_trans hsz hna.size
            refine hK.out _ _ (by first | exact hn | exact Upd.alloc hn _) (fun hn => ?_)
            clear hK K
            try simp only [Act.put, List.setIfInBounds_toArray, List.set_cons_zero, List.set_cons_succ]
            refine wpAnyH_ready (rs := [13]) (by kernel_rfl) (by simp) ?_
            refine AllReadyH.cons (o := { dst := some 118, op := Op.call { callee := Callee.builtin Builtin.append, args := #[Operand.tmp 108, Operand.tmp 117], argTypes := #[25, 25] }, type := 25, pos := "law.go:83", after := #[{ on := 3, ground := Ground.data }, { on := 12, ground := Ground.data }, { on := 11, ground := Ground.chain }], guard := none }) rfl (fun K hK => ?_) AllReadyH.nil
            refine stepT (.tmp 108) (.tmp 117) ht.txt hrt (by have := HPL.out.2; simp at this ⊢; omega) (by kernel_rfl) rfl rfl rfl ?_
            intro v8 wb htx haa
            obtain ⟨a8, n8, c8, rfl⟩ := htx.slice
            have hst := ht.stored haa htx
            have hn0 := hn
            have hbb := ht.cell.upd haa.upd ht.apart
            have hn := hn.trans haa.upd (fun k _ h => Or.inr (Or.inr h))
            refine hK.out _ _ (by first | exact hn | exact Upd.alloc hn _) (fun hn => ?_)
            clear hK K
            try simp only [Act.put, List.setIfInBounds_toArray, List.set_cons_zero, List.set_cons_succ]
            refine wpAnyH_take (i := 14) (oi := { dst := some 119, op := Op.nilCheck (Operand.tmp 105), type := 0, pos := "law.go:83", after := #[{ on := 0, ground := Ground.data }, { on := 0, ground := Ground.phase }, { on := 1, ground := Ground.phase }, { on := 2, ground := Ground.phase }, { on := 3, ground := Ground.phase }, { on := 4, ground := Ground.phase }, { on := 5, ground := Ground.phase }, { on := 6, ground := Ground.phase }, { on := 7, ground := Ground.phase }, { on := 8, ground := Ground.phase }, { on := 9, ground := Ground.phase }, { on := 10, ground := Ground.phase }, { on := 11, ground := Ground.phase }, { on := 12, ground := Ground.phase }, { on := 13, ground := Ground.phase }], guard := none }) (v := ?v41x15) rfl (by kernel_rfl) (by kernel_rfl) (by kernel_rfl) (fun _ _ _ h => h) (Or.inl ⟨by rfl, ?y41x15⟩) hn ?r41x15
            case y41x15 => (intro wS hS; (try go_simp); (try with_reducible rfl))
            try simp only [Act.put, List.setIfInBounds_toArray, List.set_cons_zero, List.set_cons_succ]
            refine wpAnyH_ready (rs := [15]) (by kernel_rfl) (by simp) ?_
            refine AllReadyH.cons (o := { dst := none, op := Op.store 25 (Operand.tmp 119) (Operand.tmp 118), type := 0, pos := "law.go:83", after := #[{ on := 14, ground := Ground.data }, { on := 13, ground := Ground.data }, { on := 13, ground := Ground.chain }, { on := 0, ground := Ground.phase }, { on := 1, ground := Ground.phase }, { on := 2, ground := Ground.phase }, { on := 3, ground := Ground.phase }, { on := 4, ground := Ground.phase }, { on := 5, ground := Ground.phase }, { on := 6, ground := Ground.phase }, { on := 7, ground := Ground.phase }, { on := 8, ground := Ground.phase }, { on := 9, ground := Ground.phase }, { on := 10, ground := Ground.phase }, { on := 11, ground := Ground.phase }, { on := 12, ground := Ground.phase }, { on := 13, ground := Ground.phase }], guard := none }) rfl (fun K hK => ?_) AllReadyH.nil
            have cb := hbb.c
            have fb := hbb.f
            go_simp
            have hn := hn0.trans hst.2.1 (fun k _ h => Or.inr h)
            refine hK.out _ _ (by first | exact hn | exact Upd.alloc hn _) (fun hn => ?_)
            clear hK K
            try simp only [Act.put, List.setIfInBounds_toArray, List.set_cons_zero, List.set_cons_succ]
            refine wpAnyH_done (by kernel_rfl) ?_ _
            refine NoPanic.normal ?_
            have HNX := hid (IR.out.next HN4.out HJ.out HDR.out hst.1 hn ((Grown.refl _ _).trans hsz hst.2.2) (HSU5.out.cur hc hst.2.1 (fun _ h => h)) HIQ5.out HRN.out)
            have hb6 := HB5.out.upd hn HBI5.out
            have e6 := hb6.c
            clear hst hb6 hn hn0 hbb ht hc cb fb haa htx
            generalize wb.setCell ⟨Bo, 0, none⟩ (.slice a8 n8 c8) = w6 at *
            go_wp2_with fail
            go_roundg (l.length - (i + 1))
            case measure => omega
            case rel => exact ⟨i + 1, _, _, _, q', rfl, rfl, by omega, HNX.out⟩
          refine AllReadyH.cons (o := { dst := some 116, op := Op.call { callee := Callee.value (Operand.func 20), args := #[Operand.tmp 115], argTypes := #[42] }, type := 9, pos := "law.go:83", after := #[{ on := 10, ground := Ground.data }, { on := 9, ground := Ground.chain }], guard := none }) rfl (fun K hK => ?_) AllReadyH.nil
          go_simp
          refine (HNB.out rn (by omega) _).mono ?_
          rintro e wa ⟨rfl, hna⟩
          unfold numV
          go_wp2_with fail
          have ht := ht.new hna
          have hn := hn.thenNew hna
          have hnn := New.trans hnn hna
          have hc := hc.new hna
          have hsz := Nat.le_trans hsz hna.size
          refine hK.out _ _ (by first | exact hn | exact Upd.alloc hn _) (fun hn => ?_)
          clear hK K
          try simp only [Act.put, List.setIfInBounds_toArray, List.set_cons_zero, List.set_cons_succ]
          refine wpAnyH_ready (rs := [3, 12]) (by kernel_rfl) (by simp) ?_
          refine AllReadyH.cons (o := { dst := some 108, op := Op.load 25 (Operand.tmp 107), type := 25, pos := "law.go:83", after := #[{ on := 2, ground := Ground.data }], guard := none }) rfl (fun K hK => ?_) ?_
          · skip
            have c := ht.cell.c
            go_simp
            refine hK.out _ _ (by first | exact hn | exact Upd.alloc hn _) (fun hn => ?_)
            clear hK K
            try simp only [Act.put, List.setIfInBounds_toArray, List.set_cons_zero, List.set_cons_succ]
            refine wpAnyH_ready (rs := [12]) (by kernel_rfl) (by simp) ?_
            refine AllReadyH.cons (o := { dst := some 117, op := Op.buildSlice 25 2 #[(0, Operand.tmp 112), (1, Operand.tmp 116)], type := 25, pos := "law.go:83", after := #[{ on := 7, ground := Ground.data }, { on := 11, ground := Ground.data }], guard := none }) rfl (fun K hK => ?_) AllReadyH.nil
            go_simp
            refine rowTStep [numL q' 8, numL rn 8] ?_
            intro W5 hna hrt
            have ht := ht.new hna
            have hn := hn.thenNew hna
            have hnn := New.trans hnn hna
            have hc := hc.new hna
            have hsz := Nat.le_trans hsz hna.size
            refine hK.out _ _ (by first | exact hn | exact Upd.alloc hn _) (fun hn => ?_)
            clear hK K
            try simp only [Act.put, List.setIfInBounds_toArray, List.set_cons_zero, List.set_cons_succ]
            refine wpAnyH_ready (rs := [13]) (by kernel_rfl) (by simp) ?_
            refine AllReadyH.cons (o := { dst := some 118, op := Op.call { callee := Callee.builtin Builtin.append, args := #[Operand.tmp 108, Operand.tmp 117], argTypes := #[25, 25] }, type := 25, pos := "law.go:83", after := #[{ on := 3, ground := Ground.data }, { on := 12, ground := Ground.data }, { on := 11, ground := Ground.chain }], guard := none }) rfl (fun K hK => ?_) AllReadyH.nil
            refine stepT (.tmp 108) (.tmp 117) ht.txt hrt (by have := HPL.out.2; simp at this ⊢; omega) (by kernel_rfl) rfl rfl rfl ?_
            intro v8 wb htx haa
            obtain ⟨a8, n8, c8, rfl⟩ := htx.slice
            have hst := ht.stored haa htx
            have hn0 := hn
            have hbb := ht.cell.upd haa.upd ht.apart
            have hn := hn.trans haa.upd (fun k _ h => Or.inr (Or.inr h))
            refine hK.out _ _ (by first | exact hn | exact Upd.alloc hn _) (fun hn => ?_)
            clear hK K
            try simp only [Act.put, List.setIfInBounds_toArray, List.set_cons_zero, List.set_cons_succ]
            refine wpAnyH_take (i := 14) (oi := { dst := some 119, op := Op.nilCheck (Operand.tmp 105), type := 0, pos := "law.go:83", after := #[{ on := 0, ground := Ground.data }, { on := 0, ground := Ground.phase }, { on := 1, ground := Ground.phase }, { on := 2, ground := Ground.phase }, { on := 3, ground := Ground.phase }, { on := 4, ground := Ground.phase }, { on := 5, ground := Ground.phase }, { on := 6, ground := Ground.phase }, { on := 7, ground := Ground.phase }, { on := 8, ground := Ground.phase }, { on := 9, ground := Ground.phase }, { on := 10, ground := Ground.phase }, { on := 11, ground := Ground.phase }, { on := 12, ground := Ground.phase }, { on := 13, ground := Ground.phase }], guard := none }) (v := ?v41x16) rfl (by kernel_rfl) (by kernel_rfl) (by kernel_rfl) (fun _ _ _ h => h) (Or.inl ⟨by rfl, ?y41x16⟩) hn ?r41x16
            case y41x16 => (intro wS hS; (try go_simp); (try with_reducible rfl))
            try simp only [Act.put, List.setIfInBounds_toArray, List.set_cons_zero, List.set_cons_succ]
            refine wpAnyH_ready (rs := [15]) (by kernel_rfl) (by simp) ?_
            refine AllReadyH.cons (o := { dst := none, op := Op.store 25 (Operand.tmp 119) (Operand.tmp 118), type := 0, pos := "law.go:83", after := #[{ on := 14, ground := Ground.data }, { on := 13, ground := Ground.data }, { on := 13, ground := Ground.chain }, { on := 0, ground := Ground.phase }, { on := 1, ground := Ground.phase }, { on := 2, ground := Ground.phase }, { on := 3, ground := Ground.phase }, { on := 4, ground := Ground.phase }, { on := 5, ground := Ground.phase }, { on := 6, ground := Ground.phase }, { on := 7, ground := Ground.phase }, { on := 8, ground := Ground.phase }, { on := 9, ground := Ground.phase }, { on := 10, ground := Ground.phase }, { on := 11, ground := Ground.phase }, { on := 12, ground := Ground.phase }, { on := 13, ground := Ground.phase }], guard := none }) rfl (fun K hK => ?_) AllReadyH.nil
            have cb := hbb.c
            have fb := hbb.f
            go_simp
            have hn := hn0.trans hst.2.1 (fun k _ h => Or.inr h)
            refine hK.out _ _ (by first | exact hn | exact Upd.alloc hn _) (fun hn => ?_)
            clear hK K
            try simp only [Act.put, List.setIfInBounds_toArray, List.set_cons_zero, List.set_cons_succ]
            refine wpAnyH_done (by kernel_rfl) ?_ _
            refine NoPanic.normal ?_
            have HNX := hid (IR.out.next HN4.out HJ.out HDR.out hst.1 hn ((Grown.refl _ _).trans hsz hst.2.2) (HSU5.out.cur hc hst.2.1 (fun _ h => h)) HIQ5.out HRN.out)
            have hb6 := HB5.out.upd hn HBI5.out
            have e6 := hb6.c
            clear hst hb6 hn hn0 hbb ht hc cb fb haa htx
            generalize wb.setCell ⟨Bo, 0, none⟩ (.slice a8 n8 c8) = w6 at *
            go_wp2_with fail
            go_roundg (l.length - (i + 1))
            case measure => omega
            case rel => exact ⟨i + 1, _, _, _, q', rfl, rfl, by omega, HNX.out⟩
          refine AllReadyH.cons (o := { dst := some 117, op := Op.buildSlice 25 2 #[(0, Operand.tmp 112), (1, Operand.tmp 116)], type := 25, pos := "law.go:83", after := #[{ on := 7, ground := Ground.data }, { on := 11, ground := Ground.data }], guard := none }) rfl (fun K hK => ?_) AllReadyH.nil
          go_simp
          refine rowTStep [numL q' 8, numL rn 8] ?_
          intro W5 hna hrt
          have ht := ht.new hna
          have hn := hn.thenNew hna
          have hnn := New.trans hnn hna
          have hc := hc.new hna
          have hsz := Nat.le_trans hsz hna.size
          refine hK.out _ _ (by first | exact hn | exact Upd.alloc hn _) (fun hn => ?_)
          clear hK K
          try simp only [Act.put, List.setIfInBounds_toArray, List.set_cons_zero, List.set_cons_succ]
          refine wpAnyH_ready (rs := [3]) (by kernel_rfl) (by simp) ?_
          refine AllReadyH.cons (o := { dst := some 108, op := Op.load 25 (Operand.tmp 107), type := 25, pos := "law.go:83", after := #[{ on := 2, ground := Ground.data }], guard := none }) rfl (fun K hK => ?_) AllReadyH.nil
          have c := ht.cell.c
          go_simp
          refine hK.out _ _ (by first | exact hn | exact Upd.alloc hn _) (fun hn => ?_)
          clear hK K
          try simp only [Act.put, List.setIfInBounds_toArray, List.set_cons_zero, List.set_cons_succ]
          refine wpAnyH_ready (rs := [13]) (by kernel_rfl) (by simp) ?_
          refine AllReadyH.cons (o := { dst := some 118, op := Op.call { callee := Callee.builtin Builtin.append, args := #[Operand.tmp 108, Operand.tmp 117], argTypes := #[25, 25] }, type := 25, pos := "law.go:83", after := #[{ on := 3, ground := Ground.data }, { on := 12, ground := Ground.data }, { on := 11, ground := Ground.chain }], guard := none }) rfl (fun K hK => ?_) AllReadyH.nil
          refine stepT (.tmp 108) (.tmp 117) ht.txt hrt (by have := HPL.out.2; simp at this ⊢; omega) (by kernel_rfl) rfl rfl rfl ?_
          intro v8 wb htx haa
          obtain ⟨a8, n8, c8, rfl⟩ := htx.slice
          have hst := ht.stored haa htx
          have hn0 := hn
          have hbb := ht.cell.upd haa.upd ht.apart
          have hn := hn.trans haa.upd (fun k _ h => Or.inr (Or.inr h))
          refine hK.out _ _ (by first | exact hn | exact Upd.alloc hn _) (fun hn => ?_)
          clear hK K
          try simp only [Act.put, List.setIfInBounds_toArray, List.set_cons_zero, List.set_cons_succ]
          refine wpAnyH_take (i := 14) (oi := { dst := some 119, op := Op.nilCheck (Operand.tmp 105), type := 0, pos := "law.go:83", after := #[{ on := 0, ground := Ground.data }, { on := 0, ground := Ground.phase }, { on := 1, ground := Ground.phase }, { on := 2, ground := Ground.phase }, { on := 3, ground := Ground.phase }, { on := 4, ground := Ground.phase }, { on := 5, ground := Ground.phase }, { on := 6, ground := Ground.phase }, { on := 7, ground := Ground.phase }, { on := 8, ground := Ground.phase }, { on := 9, ground := Ground.phase }, { on := 10, ground := Ground.phase }, { on := 11, ground := Ground.phase }, { on := 12, ground := Ground.phase }, { on := 13, ground := Ground.phase }], guard := none }) (v := ?v41x17) rfl (by kernel_rfl) (by kernel_rfl) (by kernel_rfl) (fun _ _ _ h => h) (Or.inl ⟨by rfl, ?y41x17⟩) hn ?r41x17
          case y41x17 => (intro wS hS; (try go_simp); (try with_reducible rfl))
          try simp only [Act.put, List.setIfInBounds_toArray, List.set_cons_zero, List.set_cons_succ]
          refine wpAnyH_ready (rs := [15]) (by kernel_rfl) (by simp) ?_
          refine AllReadyH.cons (o := { dst := none, op := Op.store 25 (Operand.tmp 119) (Operand.tmp 118), type := 0, pos := "law.go:83", after := #[{ on := 14, ground := Ground.data }, { on := 13, ground := Ground.data }, { on := 13, ground := Ground.chain }, { on := 0, ground := Ground.phase }, { on := 1, ground := Ground.phase }, { on := 2, ground := Ground.phase }, { on := 3, ground := Ground.phase }, { on := 4, ground := Ground.phase }, { on := 5, ground := Ground.phase }, { on := 6, ground := Ground.phase }, { on := 7, ground := Ground.phase }, { on := 8, ground := Ground.phase }, { on := 9, ground := Ground.phase }, { on := 10, ground := Ground.phase }, { on := 11, ground := Ground.phase }, { on := 12, ground := Ground.phase }, { on := 13, ground := Ground.phase }], guard := none }) rfl (fun K hK => ?_) AllReadyH.nil
          have cb := hbb.c
          have fb := hbb.f
          go_simp
          have hn := hn0.trans hst.2.1 (fun k _ h => Or.inr h)
          refine hK.out _ _ (by first | exact hn | exact Upd.alloc hn _) (fun hn => ?_)
          clear hK K
          try simp only [Act.put, List.setIfInBounds_toArray, List.set_cons_zero, List.set_cons_succ]
          refine wpAnyH_done (by kernel_rfl) ?_ _
          refine NoPanic.normal ?_
          have HNX := hid (IR.out.next HN4.out HJ.out HDR.out hst.1 hn ((Grown.refl _ _).trans hsz hst.2.2) (HSU5.out.cur hc hst.2.1 (fun _ h => h)) HIQ5.out HRN.out)
          have hb6 := HB5.out.upd hn HBI5.out
          have e6 := hb6.c
          clear hst hb6 hn hn0 hbb ht hc cb fb haa htx
          generalize wb.setCell ⟨Bo, 0, none⟩ (.slice a8 n8 c8) = w6 at *
          go_wp2_with fail
          go_roundg (l.length - (i + 1))
          case measure => omega
          case rel => exact ⟨i + 1, _, _, _, q', rfl, rfl, by omega, HNX.out⟩
      · obtain rfl : i = l.length := by omega
        go_wp2_with fail
        go_end0
        have h1 := IR.out.ho1
        have h2 := IR.out.ho2
        rw [List.drop_length] at h1 h2
        refine ⟨(New.upd HN3.out).trans IR.out.up (fun _ _ h => h), ?_, u, ?_, ?_⟩
        · rw [h2]; exact ⟨rfl, IR.out.cur⟩
        · rw [h1]; simpa [allO] using IR.out.out
        · exact (Grown.refl _ _).trans HN3.out.size IR.out.gr
end Go.Proofs.Ytkfohickmdkplaa
