import Derived.Test.YtmflohehnoghhaaOP
import Derived.SizedLaws
namespace Go.Proofs.Ytmflohehnoghhaa
open Go.ChangeShapes Go.WideShapes Go.ChangeAt Go.RowKit Go.Deep
theorem bytesMap : Try.prog.bytesOf 64 = 24 := by kernel_rfl
theorem weightsAll_mem {H : Type} {P : Program} {e : TypeId} : ∀ {l : List (DataW H)} {d : DataW H}, d ∈ l → ∀ n ∈ d.weights P e, n ∈ DataW.weightsAll P e l
  | d0 :: l, d, hd, n, hn => by
    simp only [DataW.weightsAll, List.mem_append]
    rcases List.mem_cons.1 hd with rfl | hd
    · exact .inl hn
    · exact .inr (weightsAll_mem hd n hn)
  | [], _, hd, _, _ => by cases hd
section
variable {H : Type} {enc : TypeId × Value → H} {w : World} {base : Nat} {spare : Nat → Bool} {held : Bool}
/-- mappings that came in, and what the reading holds of them -/
theorem open_maps_sz {fuel : Nat} {cs : List Value} {x : DataW H × List MemPlace} (h : DataW.trod enc Try.prog w base spare held fuel 32 cs = some x) :
    ∃ (a : Option Addr) (len cap : Nat) (O : Nat → Mp), cs = [.slice a len cap] ∧ IsMaps w a len O ∧ (len = 0 ∨ ∃ el sp, x.1 = .slice el sp ∧ el.length = len) := by
  rcases open_slice Try.underlying32 h with ⟨rfl, _⟩ | ⟨a, len, cap, m, n, D, Pl, rfl, hb, hl, hm, hmm, rfl, hx⟩
  · exact ⟨none, 0, 0, fun _ => Mp.nil, rfl, fun k hk => by omega, .inl rfl⟩
  have hlm : len ≤ m := by rw [hmm]; split <;> omega
  have ce : Try.prog.cellsOf 64 = 3 := by kernel_rfl
  have each : ∀ i, i < len → ∃ o : Mp, ∀ (j : Nat) (v : Value), o.cells[j]? = some v → w.cell? ((a.add (i * 3)).add j) = some v := by
    intro i hi
    obtain ⟨cs', h1, h2⟩ := hx i (by omega)
    rw [ce] at h1
    obtain ⟨_, hlen, hcell⟩ := World.cells?_some h1
    obtain ⟨o, rfl⟩ := open_map hlen h2
    refine ⟨o, fun j v hv => ?_⟩
    have hj : j < 3 := (List.getElem?_eq_some_iff.1 hv).1
    rw [hcell j hj]; exact hv
  haveI : Inhabited Mp := ⟨Mp.nil⟩
  obtain ⟨O, hO⟩ := choose_lt each
  exact ⟨some a, len, cap, O, rfl, fun k hk => ⟨a, rfl, hO k hk⟩, .inr ⟨_, _, rfl, by simp⟩⟩
theorem open_op_sz {n : Nat} {cs : List Value} {y : DataW H × List MemPlace} (hl : cs.length = 7) (h : DataW.trod enc Try.prog w base spare held n 34 cs = some y) (hw : ∀ k ∈ y.1.weights Try.prog 34, k ≤ reachBytes) : ∃ o : Ost, cs = o.cells ∧ IsMaps w o.la o.ll o.Z ∧ o.ll * 24 ≤ 140737488351232 ∧ o.ad < 4294967296 := by
  obtain ⟨xs, k, hk, hxy, _, hxl, hf⟩ := DataW.trod_struct Try.underlying34 h
  match xs, hxl with
  | [y0, y1, y2, y3, y4, y5, y6], _ =>
    have g0 := hf 0 _ rfl
    have g1 := hf 1 _ rfl
    have g2 := hf 2 _ rfl
    have g3 := hf 3 _ rfl
    have g4 := hf 4 _ rfl
    have g5 := hf 5 _ rfl
    have g6 := hf 6 _ rfl
    have e1 : Try.prog.cellsOf 3 = 1 := by kernel_rfl
    have e2 : Try.prog.cellsOf 4 = 1 := by kernel_rfl
    have e3 : Try.prog.cellsOf 31 = 1 := by kernel_rfl
    have e4 : Try.prog.cellsOf 32 = 1 := by kernel_rfl
    match cs, hl with
    | [v0, v1, v2, v3, v4, v5, v6], hl =>
      simp [e1, e2, e3, e4] at g0 g1 g2 g3 g4 g5 g6
      obtain ⟨z0, rfl⟩ := int_cell Try.underlying3 g0
      obtain ⟨z1, rfl⟩ := int_cell Try.underlying3 g1
      obtain ⟨z2, rfl⟩ := int_cell Try.underlying3 g2
      obtain ⟨z3, rfl⟩ := int_cell Try.underlying3 g3
      obtain ⟨b, rfl⟩ := bool_cell Try.underlying4 g4
      obtain ⟨u, rfl, hu⟩ := u32_cell Try.underlying31 g5
      obtain ⟨a, l, c, Z, hc, h2, hs⟩ := open_maps_sz g6
      simp at hc
      subst hc
      refine ⟨⟨z0, z1, z2, z3, b, u, a, l, c, Z⟩, rfl, h2, ?_, hu⟩
      show l * 24 ≤ 140737488351232
      rcases hs with h0 | ⟨el, sp, he, hel⟩
      · omega
      · have hm : (el.length + sp.length) * Try.prog.bytesOf 64 ∈ y.1.weights Try.prog 34 := by
          rw [hxy]
          simp only [DataW.weights, Try.underlying34]
          refine DataW.weights_mem_each (j := 6) (t := 32) (d := y6.1) rfl rfl _ ?_
          rw [he]
          simp only [DataW.weights, Try.underlying32]
          exact List.mem_cons_self
        have h9 := hw _ hm
        rw [bytesMap] at h9
        have : reachBytes = 140737488351232 := rfl
        omega
theorem open_ops_sz {fuel : Nat} {cs : List Value} {x : DataW H × List MemPlace} (h : DataW.trod enc Try.prog w base spare held fuel 22 cs = some x) (hw : ∀ k ∈ x.1.weights Try.prog 22, k ≤ reachBytes) :
    ∃ (a : Option Addr) (len cap : Nat) (O : Nat → Ost), cs = [.slice a len cap] ∧ len ≤ maxLen ∧ IsOps w a len O ∧ ∀ k, k < len → (O k).ll * 24 ≤ 140737488351232 := by
  rcases open_slice Try.underlying22 h with ⟨rfl, _⟩ | ⟨a, len, cap, m, n, D, Pl, rfl, hb, hl, hm, hmm, rfl, hx⟩
  · exact ⟨none, 0, 0, fun _ => Ost.nil, rfl, Nat.zero_le _, fun k hk => by omega, fun k hk => by omega⟩
  have hlm : len ≤ m := by rw [hmm]; split <;> omega
  have ce : Try.prog.cellsOf 34 = 7 := by kernel_rfl
  have each : ∀ i, i < len → ∃ o : Ost, OpIs w a i o ∧ o.ll * 24 ≤ 140737488351232 := by
    intro i hi
    obtain ⟨cs', h1, h2⟩ := hx i (by omega)
    rw [ce] at h1
    obtain ⟨_, hlen, hcell⟩ := World.cells?_some h1
    obtain ⟨o, rfl, o1, o2, o3⟩ := open_op_sz hlen h2 (fun k hk => hw k (by
      simp only [DataW.weights, Try.underlying22]
      refine List.mem_cons_of_mem _ (List.mem_append_left _ (weightsAll_mem (d := D i) (List.mem_map.2 ⟨i, List.mem_range.2 hi, rfl⟩) k hk))))
    refine ⟨o, ⟨fun j v hv => ?_, o1, by unfold maxLen; omega, o3⟩, o2⟩
    have hj : j < 7 := (List.getElem?_eq_some_iff.1 hv).1
    rw [hcell j hj]; exact hv
  haveI : Inhabited Ost := ⟨Ost.nil⟩
  obtain ⟨O, hO⟩ := choose_lt each
  exact ⟨some a, len, cap, O, rfl, Nat.le_trans hl hm, fun k hk => ⟨a, rfl, (hO k hk).1⟩, fun k hk => (hO k hk).2⟩
end
end Go.Proofs.Ytmflohehnoghhaa
