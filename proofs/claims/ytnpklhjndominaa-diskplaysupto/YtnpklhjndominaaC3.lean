import Derived.Test.YtnpklhjndominaaC2
namespace Go.Proofs.Ytnpklhjndominaa
open Go.RowKit

theorem rep_one : [Value.int .u8 0] = List.replicate 1 (Value.int .u8 0) := rfl
theorem rep_cons (n : Nat) : Value.int .u8 0 :: List.replicate n (Value.int .u8 0) = List.replicate (n + 1) (Value.int .u8 0) := rfl
theorem rep_app (a b : Nat) : List.append (List.replicate a (Value.int .u8 0)) (List.replicate b (Value.int .u8 0)) = List.replicate (a + b) (Value.int .u8 0) := by
  rw [List.append_eq]; simp
theorem rep_app3 (a b : Nat) (l : List Value) : List.append (List.replicate a (Value.int .u8 0)) (List.append (List.replicate b (Value.int .u8 0)) l) = List.append (List.replicate (a + b) (Value.int .u8 0)) l := by
  rw [List.append_eq, List.append_eq, List.append_eq, ← List.append_assoc]; simp
def tail5 : List Value := [.slice none 0 0, .int .i64 0, .bool false, .int .i64 0, .bool false]
theorem rep_tail : [Value.int .u8 0, .int .u8 0, .int .u8 0, .int .u8 0, .int .u8 0, .int .u8 0, .int .u8 0, .int .u8 0, .int .u8 0, .int .u8 0, .int .u8 0, .int .u8 0, .int .u8 0, .int .u8 0, .int .u8 0, .int .u8 0, .int .u8 0, .int .u8 0, .int .u8 0, .int .u8 0, .int .u8 0, .int .u8 0, .int .u8 0, .int .u8 0, .int .u8 0, .int .u8 0, .int .u8 0, .int .u8 0, .slice none 0 0, .int .i64 0, .bool false, .int .i64 0, .bool false] = List.append (List.replicate 28 (Value.int .u8 0)) tail5 := rfl
/-- the cells of a disk as at the beginning -/
def Z72 : Array Value := (List.append (List.replicate 131072 (Value.int .u8 0)) tail5).toArray
theorem t72_zero : Try.t45.zero = some (.agg Z72) := by
  unfold Try.t45 Z72
  simp only [rep_tail, rep_one, rep_cons, rep_app, rep_app3, Nat.reduceAdd]
theorem zero72 (w : World) : (zeroValue 45).run Try.prog w = .ok (.agg Z72) w := by
  unfold zeroValue
  rw [Sem.run_bind, Try.typeInfo45]
  simp [t72_zero]
theorem Z72_get (j : Nat) : Z72[j]? = if j < 131072 then some (Value.int .u8 0) else tail5[j - 131072]? := by
  unfold Z72
  rw [List.getElem?_toArray, List.append_eq]
  split
  · rename_i h
    rw [List.getElem?_append_left (by rw [List.length_replicate]; exact h), List.getElem?_replicate, if_pos h]
  · rename_i h
    rw [List.getElem?_append_right (by rw [List.length_replicate]; omega), List.length_replicate]
theorem Z72_size : Z72.size = 131077 := by
  unfold Z72
  rw [List.size_toArray, List.append_eq, List.length_append, List.length_replicate]; rfl
/-- a disk as at the beginning -/
def D0 : Dsk := ⟨fun _ => List.replicate 128 0, [], 0, false, 0, false⟩
theorem D0_ok : D0.Ok := ⟨fun _ _ => ⟨by simp [D0], fun x hx => by simp [D0] at hx; omega⟩, by simp [D0], by simp [D0]⟩
theorem D0_cs : Cs Z72 (.slice none 0 0) D0 := by
  refine ⟨Z72_size, fun s hs j v hv => ?_, ?_, ?_, ?_, ?_, ?_⟩
  · have := med_lt D0_ok hs hv
    rw [Z72_get, if_pos this, ← hv]
    have hj : j < 128 := by have := (List.getElem?_eq_some_iff.1 hv).1; simpa [D0] using this
    rw [List.getElem?_map]
    show _ = Option.map By ((List.replicate 128 0)[j]?)
    rw [List.getElem?_replicate, if_pos hj]; rfl
  all_goals rw [Z72_get, if_neg (by omega)]; rfl
theorem new_any (w : World) : Calls Try.prog 4 #[] w fun e w' => e = .returned (.pointer (some ⟨w.heap.size, 0, none⟩)) ∧ DkA w.heap.size D0 w' (fun b => b = w.heap.size) ∧ Below w.heap.size w w' := by
  have hz := zero72
  obtain ⟨Z, hZ⟩ : ∃ Z, Z72 = Z := ⟨_, rfl⟩
  have HC := hide D0_cs
  have hne : ¬ Z = #[] := by intro e; have := Z72_size; rw [hZ, e] at this; simp at this
  have hsz := Z72_size
  rw [hZ] at hz HC hsz
  clear hZ
  go_enter Try.func4, Try.ntmps4
  go_wp2
  go_ret
  refine ⟨rfl, ⟨Z, .slice none 0 0, ⟨heap_alloc_last _ _, HC.out, World.ownsRow_nil _ _ _ _, by simp [Value.ownBlock], D0_ok⟩, fun b => by simp [Value.ownBlock]⟩, (Below.refl _ _).alloc (Nat.le_refl _) _⟩
end Go.Proofs.Ytnpklhjndominaa
