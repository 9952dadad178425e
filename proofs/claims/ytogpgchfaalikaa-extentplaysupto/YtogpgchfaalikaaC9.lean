import Derived.Test.YtogpgchfaalikaaC8
namespace Go.Proofs.Ytogpgchfaalikaa
open Go.RowKit

theorem write_out (B : Nat) (z : Int) (v : Value) (w : World) (hz : z < 0 ∨ 1024 ≤ z) : Calls Try.prog 36 #[dp B, .int .i64 z, v] w fun e w' => e = .returned (.int .i64 40) ∧ w' = w := by
  go_enter Try.func36, Try.ntmps36
  go_wp2_with fail
  refine (outside_out z _ hz).mono ?_
  rintro e w1 ⟨rfl, rfl⟩
  go_wp2
  go_ret
  exact ⟨rfl, rfl⟩
theorem write_size (B s n cap : Nat) (ao : Option Addr) (w : World) (hs : s < 1024) (hn : n ≠ 128) : Calls Try.prog 36 #[dp B, .int .i64 (s : Int), .slice ao n cap] w fun e w' => e = .returned (.int .i64 41) ∧ w' = w := by
  have hd : decide (n = 128) = false := by simp; omega
  have hd2 : decide ((n : Int) = 128) = false := by simp; omega
  go_enter Try.func36, Try.ntmps36
  go_wp2_with fail
  refine (outside_in s _ hs).mono ?_
  rintro e w1 ⟨rfl, rfl⟩
  go_wp2
  go_ret
  exact ⟨rfl, rfl⟩
theorem write_no {B : Nat} {D : Dsk} {w : World} {F : Nat → Prop} (hd : DkA B D w F) (s cap : Nat) (ao : Option Addr) (hs : s < 1024) (hn : D.down = true ∨ (D.armed = true ∧ D.left = 0)) :
    Calls Try.prog 36 #[dp B, .int .i64 (s : Int), .slice ao 128 cap] w fun e w' => e = .returned (.int .i64 42) ∧ DkA B D.off w' F ∧ Ext F w F w' := by
  have HD := hide hd
  go_enter Try.func36, Try.ntmps36
  go_wp2_with fail
  refine (outside_in s _ hs).mono ?_
  rintro e w0 ⟨rfl, rfl⟩
  go_wp2_with fail
  refine (act_no HD.out hn).mono ?_
  rintro e w1 ⟨rfl, hd1, hx1⟩
  go_wp2
  go_ret
  exact ⟨rfl, hd1, hx1⟩
theorem splice_get {α : Type} (L X : List α) (off j : Nat) (h : off + X.length ≤ L.length) : (L.take off ++ (X ++ L.drop (off + X.length)))[j]? = if off ≤ j ∧ j < off + X.length then X[j - off]? else L[j]? := by
  split
  · rename_i hj
    rw [List.getElem?_append_right (by simp; omega), List.getElem?_append_left (by simp; omega)]
    congr 1; simp; omega
  · rename_i hj
    by_cases h1 : j < off
    · rw [List.getElem?_append_left (by simp; omega), List.getElem?_take_of_lt h1]
    · rw [List.getElem?_append_right (by simp; omega), List.getElem?_append_right (by simp; omega), List.getElem?_drop]
      congr 1; simp; omega
theorem upd_self (M : Nat → List Nat) (s : Nat) : upd M s (M s) = M := by
  funext k; unfold upd; split
  · rename_i h; rw [h]
  · rfl
theorem splice_nil (L : List Nat) (a : Nat) : splice L a [] = L := by simp [splice]
theorem splice_sec {b zs : List Nat} {a : Nat} (hb : Sec b) (hz : ∀ z ∈ zs, z < 256) (ha : a + zs.length ≤ 128) : Sec (splice b a zs) := by
  refine ⟨by rw [length_splice _ _ _ (by rw [hb.1]; exact ha)]; exact hb.1, fun x hx => ?_⟩
  unfold splice at hx
  rcases List.mem_append.1 hx with h | h
  · exact hb.2 x (List.mem_of_mem_take h)
  · rcases List.mem_append.1 h with h | h
    · exact hz x h
    · exact hb.2 x (List.mem_of_mem_drop h)
end Go.Proofs.Ytogpgchfaalikaa
