/-
  What the chapter's example of names says.
-/
import Derived.Test.YtnngibflnnmioaaNme
import Derived.Test.YtnngibflnnmioaaNmk
namespace Go.Proofs.Ytnngibflnnmioaa
open Go.RowKit Go.Proofs.Leb Go.Proofs.Own
set_option maxRecDepth 100000
set_option maxHeartbeats 8000000

def Nm1 : Nms := ⟨true, false, false, ⟨#[109]⟩, [], []⟩
theorem text1 : textV Nm1.md = true := by
  have e : Utf.need [109] = (0, true) := by
    rw [Utf.need]
    simp [Utf.cls, Utf.tail]
    rw [Utf.need]
  unfold textV
  rw [show Nm1.md.data.toList = [109] from rfl, e]
  rfl
theorem right1 : NsRight Nm1 := by
  refine ⟨⟨.inl rfl, .inr rfl, .inr rfl⟩, text1, ⟨fun k h => by simp [Nm1] at h, fun x h => by cases h⟩, fun k h => by simp [Nm1] at h, fun x h => by cases h⟩
theorem bytes1 : nsB Nm1 = [0, 2, 1, 109] := by
  unfold nsB Nm1 rowB txB
  simp [encU_last, lb, ByteArray.size]
theorem awake14_any (w : World) : Calls Try.prog 21 #[] w (True' w) := by
  have HP := hid (nsPut_any (B := fun _ => False) Nm1 (.slice none 0 0) (.slice none 0 0) w (fun k h => h.elim) RdE.nil RdE.nil ⟨by decide, ⟨by decide, fun x h => by cases h⟩, by decide, fun x h => by cases h⟩ ⟨by decide, ⟨by decide, fun x h => by cases h⟩, by decide, fun x h => by cases h⟩)
  go_enter Try.func21, Try.ntmps21
  go_wp2_with fail
  refine HP.out.mono ?_
  rintro e w' ⟨hn, ⟨_, rfl⟩ | ⟨h, _⟩⟩
  · have HN := hid hn
    clear hn
    rw [bytes1]
    go_wp2_with fail
    go_ret
    exact ⟨rfl, HN.out⟩
  · exact absurd right1 h
end Go.Proofs.Ytnngibflnnmioaa
