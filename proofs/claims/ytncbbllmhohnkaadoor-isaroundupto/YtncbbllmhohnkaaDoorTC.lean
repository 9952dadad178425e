import Derived.Test.YtncbbllmhohnkaaDoorTB
import Derived.Test.YtncbbllmhohnkaaDoorSB
import Derived.Test.YtncbbllmhohnkaaDoorI5
namespace Go.Proofs.YtncbbllmhohnkaaDoor
open Go.RowKit
def dg16 : ByteArray := ⟨#[48, 49, 50, 51, 52, 53, 54, 55, 56, 57, 97, 98, 99, 100, 101, 102]⟩
theorem cut16 (v : Nat) (h : v < 16) : dg16.extract v (v + 1) = ⟨#[hd v]⟩ := by
  match v, h with
  | k + 16, h => omega
  | 0, _ => rfl
  | 1, _ => rfl
  | 2, _ => rfl
  | 3, _ => rfl
  | 4, _ => rfl
  | 5, _ => rfl
  | 6, _ => rfl
  | 7, _ => rfl
  | 8, _ => rfl
  | 9, _ => rfl
  | 10, _ => rfl
  | 11, _ => rfl
  | 12, _ => rfl
  | 13, _ => rfl
  | 14, _ => rfl
  | 15, _ => rfl
theorem app_str (a b : List UInt8) : (⟨a.toArray⟩ : ByteArray) ++ (⟨b.toArray⟩ : ByteArray) = ⟨(a ++ b).toArray⟩ := by
  apply ByteArray.ext
  simp [ByteArray.data_append]
theorem hx_step (L : List UInt8) (r : Nat) (h : r < 16) : (⟨L.toArray⟩ : ByteArray) ++ dg16.extract r (r + 1) = ⟨(L ++ [hd r]).toArray⟩ := by
  rw [cut16 r h]; exact app_str L [hd r]
section
variable (w : World)
end
end Go.Proofs.YtncbbllmhohnkaaDoor
