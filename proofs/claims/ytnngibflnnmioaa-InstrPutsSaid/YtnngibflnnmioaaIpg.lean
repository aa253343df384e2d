/-
  InstrPuts, at what a frame hands.
-/
import Derived.Test.YtnngibflnnmioaaIpw
import Derived.Test.YtnngibflnnmioaaOpn
namespace Go.Proofs.Ytnngibflnnmioaa
open Go.RowKit Go.Proofs.Leb Go.Proofs.Own

theorem instrPuts_walk' (W : World) (p c k t i x y n lane p' c' k' t' i' x' y' n' lane' : Int) (raw ty raw' ty' : ByteArray) (a a' : Option Addr) (len cap len' cap' : Nat) (zs zs' : List Int)
    (h1 : IsRow .u32 W a len cap zs) (h2 : IsRow .u32 W a' len' cap' zs') (hp : 0 ≤ p ∧ p < 256) (hc : 0 ≤ c ∧ c < 4294967296) (ht : 0 ≤ t ∧ t < 256) (hi : 0 ≤ i ∧ i < 4294967296) (hx : 0 ≤ x ∧ x < 4294967296) (hy : 0 ≤ y ∧ y < 4294967296)
    (hlane : 0 ≤ lane ∧ lane < 256) (hn : -9223372036854775808 ≤ n ∧ n ≤ 9223372036854775807) :
    Calls Try.prog 3 #[.agg #[.int .u8 p, .int .u32 c, .int .i64 k, .int .u8 t, .int .u32 i, .int .u32 x, .int .u32 y, .slice a len cap, .int .i64 n, .string raw, .int .u8 lane, .string ty],
      .agg #[.int .u8 p', .int .u32 c', .int .i64 k', .int .u8 t', .int .u32 i', .int .u32 x', .int .u32 y', .slice a' len' cap', .int .i64 n', .string raw', .int .u8 lane', .string ty']] W (True' W) := by
  obtain ⟨p, rfl⟩ : ∃ m : Nat, p = (m : Int) := ⟨p.toNat, by omega⟩
  obtain ⟨c, rfl⟩ : ∃ m : Nat, c = (m : Int) := ⟨c.toNat, by omega⟩
  obtain ⟨t, rfl⟩ : ∃ m : Nat, t = (m : Int) := ⟨t.toNat, by omega⟩
  obtain ⟨i, rfl⟩ : ∃ m : Nat, i = (m : Int) := ⟨i.toNat, by omega⟩
  obtain ⟨x, rfl⟩ : ∃ m : Nat, x = (m : Int) := ⟨x.toNat, by omega⟩
  obtain ⟨y, rfl⟩ : ∃ m : Nat, y = (m : Int) := ⟨y.toNat, by omega⟩
  obtain ⟨lane, rfl⟩ : ∃ m : Nat, lane = (m : Int) := ⟨lane.toNat, by omega⟩
  obtain ⟨ns, r1, e1, _, b1⟩ := rdmOfRow (k := .u32) (fun n h => wf_u32 h) h1
  obtain ⟨ns', r2, e2, _, b2⟩ := rdmOfRow (k := .u32) (fun n h => wf_u32 h) h2
  exact instrPuts_walk p c t i x y lane k n ns raw ty ⟨p', c', k', t', i', x', y', ns', n', raw', lane', ty'⟩ _ _ W (by omega) (by omega) (by omega) (by omega) (by omega) (by omega) (by omega) hn.1 hn.2 b1 r1 r2
end Go.Proofs.Ytnngibflnnmioaa
