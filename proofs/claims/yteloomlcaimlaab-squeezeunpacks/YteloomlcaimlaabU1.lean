import Derived.Test.YteloomlcaimlaabR4
namespace Go.Proofs.Yteloomlcaimlaab
open Go.RowKit
theorem drop_get (p : List Nat) (a j : Nat) : (p.drop a).getD j 0 = p.getD (a + j) 0 := by simp [List.getD_eq_getElem?_getD]
theorem cut_drop_cut (p : List Nat) (a x y : Nat) : cut (p.drop a) x y = cut p (a + x) (a + y) := by
  unfold cut
  rw [List.take_drop, List.drop_drop]
/-- what the document's unfold gives -/
def uf (p : List Nat) : Nat × List Nat × Nat :=
  if p.length < 4 then (20, [], 0) else if 65536 < four p then (200, [], 0) else
  if (dc (four p) (p.drop 4) [] 0).1 ≠ 0 then ((dc (four p) (p.drop 4) [] 0).1, [], 0) else
  if (dc (four p) (p.drop 4) [] 0).2.1.length < four p then (200, [], 0) else dc (four p) (p.drop 4) [] 0
theorem uf_fits {p : List Nat} (hp : Bys p) : Bys (uf p).2.1 ∧ (uf p).2.1.length ≤ 65536 := by
  unfold uf
  split
  · exact ⟨Bys.nil, by simp⟩
  split
  · exact ⟨Bys.nil, by simp⟩
  next h2 =>
  split
  · exact ⟨Bys.nil, by simp⟩
  split
  · exact ⟨Bys.nil, by simp⟩
  · have := dc_fits (four p) (p.drop 4) (hp.drop 4)
    exact ⟨this.2, by omega⟩
theorem uf_un (p : List Nat) : un p = if (uf p).1 ≠ 0 then ((uf p).1, [], 0) else if pkd (uf p).2.1 ≠ p then (200, [], 0) else uf p := by
  unfold un uf
  by_cases h1 : p.length < 4
  · simp [h1]
  · by_cases h2 : 65536 < four p
    · simp [h1, h2]
    · by_cases h3 : (dc (four p) (p.drop 4) [] 0).1 = 0
      · by_cases h4 : (dc (four p) (p.drop 4) [] 0).2.1.length < four p
        · simp [h1, h2, h3, h4]
        · simp [h1, h2, h3, h4]
      · simp [h1, h2, h3]
section
variable (w : World)
set_option maxRecDepth 100000 in
set_option maxHeartbeats 1000000 in
theorem token_any (v : Value) (p : List Nat) (at0 B : Nat) (hv : Rb w B v p) (hy : Bys p) (hl : p.length ≤ 140737488351232) (hat : at0 < p.length) :
    Calls Try.prog 31 #[v, .int .i64 (at0 : Nat)] w fun e w' => e = .returned (.tuple #[.int .i64 (((tkn (p.drop at0)).map (·.1)).getD 0 : Nat), .int .i64 (((tkn (p.drop at0)).map (·.2.1)).getD 0 : Nat)]) ∧ w' = w := by
  obtain ⟨ao, cap, rfl, hcap⟩ := hv.len
  obtain ⟨a, rfl, _, hc⟩ := hv.some_of (by omega)
  have c0 := hc at0 hat
  have b0 := hy.get at0
  have HT : Hid (tkn (p.drop at0) = if p.getD at0 0 < 128 then (if p.getD at0 0 + 2 ≤ p.length - at0 then some (p.getD at0 0 + 2, p.getD at0 0 + 1, 0) else none)
      else if p.length - at0 < 3 then none else some (3, p.getD at0 0 - 124, p.getD (at0 + 1) 0 + 256 * p.getD (at0 + 2) 0 + 1)) := hide (by
    unfold tkn
    rw [drop_get, drop_get, drop_get, List.length_drop, Nat.add_zero])
  generalize p.getD (at0 + 1) 0 + 256 * p.getD (at0 + 2) 0 + 1 = dd at *
  generalize p.getD at0 0 = q at *
  generalize p.length = n at *
  have hi0 : (at0 : Int) < n := by omega
  clear hv hy hc
  by_cases h128 : q < 128
  · have hqI : (q : Int) < 128 := by omega
    by_cases hs : q + 2 ≤ n - at0
    · have hsI : ¬ (n : Int) - (at0 : Int) < (q : Int) + 2 := by omega
      have HT2 := hide (HT.out.trans ((if_pos h128).trans (if_pos hs)))
      go_enter Try.func31, Try.ntmps31
      go_wp2
      go_ret2
      rw [HT2.out]
      exact ⟨by simp, rfl⟩
    · have hsI : (n : Int) - (at0 : Int) < (q : Int) + 2 := by omega
      have HT2 := hide (HT.out.trans ((if_pos h128).trans (if_neg hs)))
      go_enter Try.func31, Try.ntmps31
      go_wp2
      go_ret2
      rw [HT2.out]
      exact ⟨rfl, rfl⟩
  · have hqI : ¬ (q : Int) < 128 := by omega
    by_cases hs : n - at0 < 3
    · have hsI : (n : Int) - (at0 : Int) < 3 := by omega
      have HT2 := hide (HT.out.trans ((if_neg h128).trans (if_pos hs)))
      go_enter Try.func31, Try.ntmps31
      go_wp2
      go_ret2
      rw [HT2.out]
      exact ⟨rfl, rfl⟩
    · have hsI : ¬ (n : Int) - (at0 : Int) < 3 := by omega
      have HT2 := hide (HT.out.trans ((if_neg h128).trans (if_neg hs)))
      have HE : Hid ((q : Int) - 128 + 4 = ((q - 124 : Nat) : Int)) := hide (by omega)
      go_enter Try.func31, Try.ntmps31
      go_wp2
      go_ret2
      rw [HT2.out]
      refine ⟨?_, rfl⟩
      simp
      first | rfl | exact HE.out
end
end Go.Proofs.Yteloomlcaimlaab
