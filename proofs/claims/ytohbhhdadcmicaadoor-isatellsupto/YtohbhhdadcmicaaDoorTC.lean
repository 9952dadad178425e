import Derived.Test.YtohbhhdadcmicaaDoorTB
import Derived.Test.YtohbhhdadcmicaaDoorSB
import Derived.Test.YtohbhhdadcmicaaDoorI6
namespace Go.Proofs.YtohbhhdadcmicaaDoor
open Go.RowKit
def dg16 : ByteArray := ⟨#[48, 49, 50, 51, 52, 53, 54, 55, 56, 57, 97, 98, 99, 100, 101, 102]⟩
theorem cut16 (v : Nat) (h : v < 16) : dg16.extract v (v + 1) = ⟨#[hd v]⟩ := by
  match v, h with
  | k + 16, h => omega
  | 0, _ => rfl
  | 1, _ => rfl
  | 2, _ => rfl
  | 3, _ => rfl
  | 4, _ => rfl
  | 5, _ => rfl
  | 6, _ => rfl
  | 7, _ => rfl
  | 8, _ => rfl
  | 9, _ => rfl
  | 10, _ => rfl
  | 11, _ => rfl
  | 12, _ => rfl
  | 13, _ => rfl
  | 14, _ => rfl
  | 15, _ => rfl
theorem app_str (a b : List UInt8) : (⟨a.toArray⟩ : ByteArray) ++ (⟨b.toArray⟩ : ByteArray) = ⟨(a ++ b).toArray⟩ := by
  apply ByteArray.ext
  simp [ByteArray.data_append]
theorem hx_step (L : List UInt8) (r : Nat) (h : r < 16) : (⟨L.toArray⟩ : ByteArray) ++ dg16.extract r (r + 1) = ⟨(L ++ [hd r]).toArray⟩ := by
  rw [cut16 r h]; exact app_str L [hd r]
section
variable (w : World)
set_option maxRecDepth 100000 in
set_option maxHeartbeats 1000000 in
theorem rhex_any (n : Nat) (hn : n < 4294967296) : Calls Tryd.prog 20 #[.int .u32 (n : Int)] w fun e w' => e = .returned (.string ⟨(hx8 n).toArray⟩) ∧ w' = w := by
  go_enter Tryd.func20, Tryd.ntmps20
  go_upto_region 3 with fail
  go_loopw [3, 4] (fun s i wr => ∃ k : Nat, k ≤ 8 ∧ i = .int .i64 ((k : Int) - 1) ∧ s = .string ⟨((hx8 n).take (8 - k)).toArray⟩ ∧ wr = w) (fun _ i _ => (intOf i + 1).toNat)
  case atStart => exact ⟨8, by omega, rfl, rfl, rfl⟩
  case round =>
  obtain ⟨k, hk, rfl, rfl, rfl⟩ := hrel
  have hx : k = 0 ∨ k = 1 ∨ k = 2 ∨ k = 3 ∨ k = 4 ∨ k = 5 ∨ k = 6 ∨ k = 7 ∨ k = 8 := by omega
  clear hk
  rcases hx with rfl | rfl | rfl | rfl | rfl | rfl | rfl | rfl | rfl
  · go_wp2
    go_ret
    exact ⟨rfl, rfl⟩
  · go_wp2
    exact ⟨⟨0, by omega, rfl, congrArg Value.string (hx_step _ _ (Nat.mod_lt _ (by decide))), trivial⟩, by decide⟩
  · go_wp2
    exact ⟨⟨1, by omega, rfl, congrArg Value.string (hx_step _ _ (Nat.mod_lt _ (by decide))), trivial⟩, by decide⟩
  · go_wp2
    exact ⟨⟨2, by omega, rfl, congrArg Value.string (hx_step _ _ (Nat.mod_lt _ (by decide))), trivial⟩, by decide⟩
  · go_wp2
    exact ⟨⟨3, by omega, rfl, congrArg Value.string (hx_step _ _ (Nat.mod_lt _ (by decide))), trivial⟩, by decide⟩
  · go_wp2
    exact ⟨⟨4, by omega, rfl, congrArg Value.string (hx_step _ _ (Nat.mod_lt _ (by decide))), trivial⟩, by decide⟩
  · go_wp2
    exact ⟨⟨5, by omega, rfl, congrArg Value.string (hx_step _ _ (Nat.mod_lt _ (by decide))), trivial⟩, by decide⟩
  · go_wp2
    exact ⟨⟨6, by omega, rfl, congrArg Value.string (hx_step _ _ (Nat.mod_lt _ (by decide))), trivial⟩, by decide⟩
  · go_wp2
    exact ⟨⟨7, by omega, rfl, congrArg Value.string (hx_step _ _ (Nat.mod_lt _ (by decide))), trivial⟩, by decide⟩
end
end Go.Proofs.YtohbhhdadcmicaaDoor
