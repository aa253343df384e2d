/-
  Names: what is more than is looked at.
-/
import Derived.Test.YtnngibflnnmioaaNmc
namespace Go.Proofs.Ytnngibflnnmioaa
open Go.RowKit Go.Proofs.Leb Go.Proofs.Own
set_option maxRecDepth 100000
set_option maxHeartbeats 8000000

def big : Nat := 140737488355328
/-- no text is more than a machine holds -/
def Rch (N : Nms) : Prop := N.md.size ≤ big ∧ N.fs.length ≤ big ∧ (∀ x ∈ N.fs, x.2.size ≤ big) ∧ N.ls.length ≤ big ∧ ∀ x ∈ N.ls, x.2.length ≤ big ∧ ∀ y ∈ x.2, y.2.size ≤ big
def FitN (N : Nms) : Prop := N.md.size ≤ 3000 ∧ (N.fs.length ≤ 30 ∧ ∀ x ∈ N.fs, x.2.size ≤ 3000) ∧ N.ls.length ≤ 30 ∧ ∀ x ∈ N.ls, x.2.length ≤ 30 ∧ ∀ y ∈ x.2, y.2.size ≤ 3000
def GreatP (N : Nms) (w : World) (e : Ending) (w' : World) : Prop := ∃ b, e = .returned (.bool b) ∧ (b = false → FitN N) ∧ New w w'
/-- all texts of a list's front are at most so many bytes -/
def Upto (xs : List (Nat × ByteArray)) (i s : Nat) : Prop := ∀ k (h : k < xs.length), k < i → xs[k].2.size ≤ s
theorem Upto.mono {xs : List (Nat × ByteArray)} {i s s' : Nat} (h : Upto xs i s) (hs : s ≤ s') : Upto xs i s' := fun k hk h1 => Nat.le_trans (h k hk h1) hs
theorem Upto.step {xs : List (Nat × ByteArray)} {i s : Nat} (h : Upto xs i s) (hi : i < xs.length) : Upto xs (i + 1) (s + xs[i].2.size) := fun k hk h1 => by
  rcases Nat.lt_or_ge k i with h3 | h3
  · have := h k hk h3; omega
  · obtain rfl : k = i := by omega
    omega
theorem Upto.all {xs : List (Nat × ByteArray)} {s : Nat} (h : Upto xs xs.length s) : ∀ x ∈ xs, x.2.size ≤ s := fun x hx => by
  obtain ⟨j, hj, rfl⟩ := List.mem_iff_getElem.1 hx
  exact h j hj hj
def UptoL (ls : List (Nat × List (Nat × ByteArray))) (i s : Nat) : Prop := ∀ k (h : k < ls.length), k < i → ls[k].2.length ≤ 30 ∧ Upto ls[k].2 ls[k].2.length s
theorem UptoL.mono {ls : List (Nat × List (Nat × ByteArray))} {i s s' : Nat} (h : UptoL ls i s) (hs : s ≤ s') : UptoL ls i s' := fun k hk h1 => ⟨(h k hk h1).1, (h k hk h1).2.mono hs⟩
theorem great14_any {B1 B2 : Nat → Prop} (N : Nms) (f l : Value) (w : World) (h1 : RdE 2 (E2 FN) w B1 f N.fs) (h2 : RdE 2 (E2 FL) w B2 l N.ls) (hr : Rch N) :
    Calls Try.prog 14 #[nv N f l] w (GreatP N w) := by
  obtain ⟨a1, c1, rfl, hat⟩ := nm_at h1
  obtain ⟨a2, c2, rfl, hat2⟩ := e2_at h2
  clear h1 h2
  obtain ⟨hm, hf, hl, md, fs, ls⟩ := N
  obtain ⟨w2, hw2⟩ : ∃ w2, w.alloc (.cells #[.bool hm, .bool hf, .bool hl, .string md, .slice a1 fs.length c1, .slice a2 ls.length c2] 45) = w2 := ⟨_, rfl⟩
  have HN : Hid (New w w2) := by show New _ _; rw [← hw2]; exact (Upd.refl _ _).alloc _
  have hbx : NBox w2 w.heap.size ⟨hm, hf, hl, md, fs, ls⟩ (.slice a1 fs.length c1) (.slice a2 ls.length c2) 45 := by rw [← hw2]; exact hp_new rfl
  obtain ⟨z0, z1, z2, z3, z4, z5⟩ := hbx.cs
  have HAT := hid hat
  have HAT2 := hid hat2
  obtain ⟨r1, r2, r3, r4, r5⟩ := hr
  have HR3 := hid r3
  have HR5 := hid r5
  unfold nv
  simp only [big] at *
  have HW := hid hw2
  clear hw2 hbx hat hat2 r3 r5
  go_enter Try.func14, Try.ntmps14
  go_upto_block 0 with fail
  rw [HW.out]
  clear HW
  go_cut [3] (fun t wx => ∃ s : Nat, t = .int .i64 s ∧ md.size ≤ s ∧ (fs.length ≤ 30 → Upto fs fs.length s) ∧ s ≤ 5629499534213120 ∧ wx = w2)
  case first =>
    go_wp2_with fail
    go_loop [3, 4] (fun t c => ∃ i s : Nat, c = .int .i64 i ∧ t = .int .i64 s ∧ i ≤ 31 ∧ i ≤ fs.length ∧ md.size ≤ s ∧ Upto fs i s ∧ s ≤ (i + 1) * 140737488355328) (fun _ c => 31 - (intOf c).toNat)
    case atStart => exact ⟨0, md.size, rfl, rfl, by omega, by omega, by omega, fun k _ h => absurd h (Nat.not_lt_zero _), by omega⟩
    case round =>
      obtain ⟨i, s, rfl, rfl, hi1, hi2, hms, hup, hsb⟩ := hrel
      by_cases hi : i < fs.length ∧ i ≤ 30
      · obtain ⟨hi3, hi4⟩ := hi
        obtain ⟨b, o, rfl, _, hc1⟩ := HAT.out i hi3
        have q1 := HN.out.cell hc1 (fun h => h)
        have hsz := HR3.out _ (List.getElem_mem hi3)
        have HUP := hid (hup.step hi3)
        clear hc1 hup
        generalize hg : fs[i].2.size = z at *
        go_wp2_with fail
        go_round
        case rel => exact ⟨i + 1, s + z, by go_num, by go_num, by omega, by omega, by omega, HUP.out, by omega⟩
        case measure => simp [intOf]; omega
      · have hex : (i = fs.length ∨ 30 < fs.length) := by omega
        have HEX := hid hex
        have HUP : Hid (fs.length ≤ 30 → Upto fs fs.length s) := by
          show fs.length ≤ 30 → Upto fs fs.length s
          intro h
          have e : i = fs.length := by omega
          subst e
          exact hup
        have hsb2 : s ≤ 5629499534213120 := by omega
        have HMS := hid hms
        clear hex hup hms
        have key : ∀ (K : Prop), ((decide (i < fs.length) = false → K) ∧ (decide (i < fs.length) = true → decide ((i : Int) ≤ 30) = false → K)) → K := by
          intro K ⟨k1, k2⟩
          by_cases h : i < fs.length
          · exact k2 (by simpa using h) (by simp; omega)
          · exact k1 (by simpa using h)
        refine key _ ⟨fun h1 => ?_, fun h1 h2 => ?_⟩
        all_goals
          have HH1 := hid h1
          clear hi hsb
          go_wp2_with fail
          go_meet
          exact ⟨s, rfl, HMS.out, HUP.out, hsb2, rfl⟩
  case rest =>
  obtain ⟨s, rfl, hms, hup, hsb2, hw⟩ := hcut
  subst wc
  have HMS := hid hms
  have HUP := hid hup
  clear hms hup
  go_upto_block 2 with fail
  go_cut [3] (fun t wx => ∃ s2 : Nat, t = .int .i64 s2 ∧ (fs.length ≤ 30 → ls.length ≤ 30 → s2 ≤ 3000 → FitN ⟨hm, hf, hl, md, fs, ls⟩) ∧ wx = w2)
  case first =>
    go_wp2_with fail
    go_loop [3, 5, 6] (fun t c _ => ∃ i2 s2 : Nat, c = .int .i64 i2 ∧ t = .int .i64 s2 ∧ i2 ≤ 31 ∧ i2 ≤ ls.length ∧ s ≤ s2 ∧ UptoL ls i2 s2 ∧ s2 ≤ 5629499534213120 + i2 * 4362862139015168) (fun _ c _ => 31 - (intOf c).toNat)
    case atStart => exact ⟨0, s, rfl, rfl, by omega, by omega, by omega, fun k _ h => absurd h (Nat.not_lt_zero _), by omega⟩
    case round =>
      obtain ⟨i2, s2, rfl, rfl, hj1, hj2, hss, hul, hs2⟩ := hrel
      by_cases hi : i2 < ls.length ∧ i2 ≤ 30
      · obtain ⟨hi3, hi4⟩ := hi
        obtain ⟨b, o, u, rfl, _, hc1, hu⟩ := HAT2.out i2 hi3
        have q1 := HN.out.cell hc1 (fun h => h)
        obtain ⟨au, cu, e, hatu⟩ := nm_at (show RdE 2 (E2 FN) w B2 u ls[i2].2 from hu)
        have hrz := HR5.out _ (List.getElem_mem hi3)
        subst e
        have HATU := hid hatu
        have HRZ := hid hrz.2
        have hxl := hrz.1
        have HUL : Hid (∀ s3, s2 ≤ s3 → ls[i2].2.length ≤ 30 → Upto ls[i2].2 ls[i2].2.length s3 → UptoL ls (i2 + 1) s3) := by
          show ∀ s3, s2 ≤ s3 → ls[i2].2.length ≤ 30 → Upto ls[i2].2 ls[i2].2.length s3 → UptoL ls (i2 + 1) s3
          intro s3 h1 h2 h3 k hk h4
          rcases Nat.lt_or_ge k i2 with h5 | h5
          · exact ⟨(hul k hk h5).1, (hul k hk h5).2.mono h1⟩
          · obtain rfl : k = i2 := by omega
            exact ⟨h2, h3⟩
        clear hc1 hu hatu hrz hul
        generalize ls[i2].2 = xs at *
        by_cases hin : 30 < xs.length
        · go_wp2_with fail
          go_ret
          exact ⟨true, rfl, (fun h => Bool.noConfusion h), HN.out⟩
        · go_wp2_with fail
          go_loop [3, 6] (fun t c => ∃ j s3 : Nat, c = .int .i64 j ∧ t = .int .i64 s3 ∧ j ≤ xs.length ∧ s2 ≤ s3 ∧ Upto xs j s3 ∧ s3 ≤ s2 + j * 140737488355328) (fun _ c => xs.length - (intOf c).toNat)
          case atStart => exact ⟨0, s2, rfl, rfl, by omega, by omega, fun k _ h => absurd h (Nat.not_lt_zero _), by omega⟩
          case round =>
            obtain ⟨j, s3, rfl, rfl, hk1, hk2, huu, hs3⟩ := hrel
            by_cases hj : j < xs.length
            · obtain ⟨b', o', rfl, _, hd1⟩ := HATU.out j hj
              have q2 := HN.out.cell hd1 (fun h => h)
              have hsz := HRZ.out _ (List.getElem_mem hj)
              have HUP2 := hid (huu.step hj)
              clear hd1 huu
              generalize hg : xs[j].2.size = z at *
              go_wp2_with fail
              go_round
              case rel => exact ⟨j + 1, s3 + z, by go_num, by go_num, by omega, by omega, HUP2.out, by omega⟩
              case measure => simp [intOf]; omega
            · have e : j = xs.length := by omega
              have HU3 := hid (HUL.out s3 hk2 (by omega) (by rw [← e]; exact huu))
              clear huu
              go_wp2_with fail
              go_round
              case rel => exact ⟨i2 + 1, s3, by go_num, rfl, by omega, by omega, by omega, HU3.out, by omega⟩
              case measure => simp [intOf]; omega
      · have hex2 : (i2 = ls.length ∨ 30 < ls.length) := by omega
        have HUL2 : Hid (ls.length ≤ 30 → UptoL ls ls.length s2) := by
          show ls.length ≤ 30 → UptoL ls ls.length s2
          intro h
          have e : i2 = ls.length := by omega
          subst e
          exact hul
        have HFIT : Hid (fs.length ≤ 30 → ls.length ≤ 30 → s2 ≤ 3000 → FitN ⟨hm, hf, hl, md, fs, ls⟩) := by
          show fs.length ≤ 30 → ls.length ≤ 30 → s2 ≤ 3000 → FitN ⟨hm, hf, hl, md, fs, ls⟩
          intro k1 k2 k3
          have hmm := HMS.out
          refine ⟨by simp only; omega, ⟨k1, ((HUP.out k1).mono (by omega : s ≤ 3000)).all⟩, k2, fun x hx => ?_⟩
          obtain ⟨j, hj, rfl⟩ := List.mem_iff_getElem.1 hx
          have := HUL2.out k2 j hj hj
          exact ⟨this.1, (this.2.mono k3).all⟩
        clear hul
        have key2 : ∀ (K : Prop), ((decide (i2 < ls.length) = false → K) ∧ (decide (i2 < ls.length) = true → decide ((i2 : Int) ≤ 30) = false → K)) → K := by
          intro K ⟨k1, k2⟩
          by_cases h : i2 < ls.length
          · exact k2 (by simpa using h) (by simp; omega)
          · exact k1 (by simpa using h)
        refine key2 _ ⟨fun g1 => ?_, fun g1 g2 => ?_⟩
        all_goals
          have HH2 := hid g1
          clear hi hs2
          go_wp2_with fail
          go_meet
          exact ⟨s2, rfl, HFIT.out, rfl⟩
  case rest =>
  obtain ⟨s2, rfl, hfit, hw⟩ := hcut
  subst wc
  have HFIT := hid hfit
  clear hfit
  by_cases k1 : 30 < fs.length
  · go_wp2_with fail
    go_ret
    exact ⟨true, rfl, (fun h => Bool.noConfusion h), HN.out⟩
  · by_cases k2 : 30 < ls.length
    · go_wp2_with fail
      go_ret
      exact ⟨true, rfl, (fun h => Bool.noConfusion h), HN.out⟩
    · by_cases k3 : 3000 < s2
      · have k4 : decide ((3000 : Int) < (s2 : Int)) = true := by simp; omega
        go_wp2_with fail
        go_ret
        first
          | exact ⟨_, rfl, (fun h => by simp at h; omega), HN.out⟩
          | exact ⟨_, rfl, (fun h => by simp at h), HN.out⟩
          | exact ⟨_, rfl, (fun h => Bool.noConfusion h), HN.out⟩
      · have HF := hid (HFIT.out (by omega) (by omega) (by omega))
        have k4 : decide ((3000 : Int) < (s2 : Int)) = false := by simp; omega
        go_wp2_with fail
        go_ret
        exact ⟨_, rfl, (fun _ => HF.out), HN.out⟩
end Go.Proofs.Ytnngibflnnmioaa
