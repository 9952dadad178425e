import Derived.Test.YtncbbllmhohnkaaDoorTI
namespace Go.Proofs.YtncbbllmhohnkaaDoor
open Go.RowKit
theorem info_byte : ∃ i, Tryd.prog.info? 5 = some i ∧ i.zero = some (.int .u8 0) ∧ i.size = 1 ∧ i.bytes = 1 := info_parts (by kernel_rfl)
theorem info_u32 : ∃ i, Tryd.prog.info? 29 = some i ∧ i.zero = some (.int .u32 0) ∧ i.size = 1 ∧ i.bytes = 4 := info_parts (by kernel_rfl)
theorem own_below {w w' : World} {base : Nat} {e : TypeId} {size : Nat} {v : Value} {n : Nat} {xs : List Value} (h : w.ownsRow base e size v n xs) (hb : Below w.heap.size w w') : w'.ownsRow base e size v n xs := by
  obtain ⟨h1, h2 | ⟨g, cap, cur, h2, h3, h4, h5⟩⟩ := h
  · exact ⟨h1, .inl h2⟩
  · exact ⟨h1, .inr ⟨g, cap, cur, h2, h3, (hb.block g (Array.getElem?_eq_some_iff.1 h4).1).trans h4, h5⟩⟩
section
variable (w : World)
theorem str_own {base : Nat} {v : Value} {n : Nat} {l : List UInt8} (h : w.ownsRow base 5 1 v n (Lib.byteCells l)) : (convert 74 9 v).run Tryd.prog w = .ok (.string ⟨l.toArray⟩) w := by
  have hn : l.length = n := by have := h.1; rw [Lib.byteCells_length] at this; omega
  rcases h.2 with ⟨h1, h2⟩ | ⟨g, cap, cur, h1, _, h3, _, _, _, h7⟩
  · subst h1
    obtain rfl : l = [] := List.eq_nil_of_length_eq_zero (by omega)
    rw [run_convert_bytes_string w 74 9 5 _ _ _ Tryd.underlying74 Tryd.underlying5 Tryd.underlying9]
    rfl
  · subst h1
    refine str_of w l ⟨g, 0, none⟩ n cap hn.symm fun j hj => ?_
    rw [add0, Lib.cell_of_heap h3]
    have e : (Lib.byteCells l)[j]? = some (.int .u8 (l[j].toNat : Nat)) := by simp [Lib.byteCells, hj]
    rw [← h7, List.getElem?_take] at e
    split at e
    · rw [← Array.getElem?_toList]; exact e
    · simp at e
set_option maxRecDepth 100000 in
theorem words_any (ao : Option Addr) (cap : Nat) (ns : List Nat) (hl : ns.length ≤ 1048576) (hW : Wd w ao ns) (ha : ao = none → ns.length = 0 ∧ cap = 0) : Calls Tryd.prog 19 #[.slice ao ns.length cap] w fun e w' => ∃ ao' cap', e = .returned (.slice ao' ns.length cap') ∧ Wd w' ao' ns ∧ Below w.heap.size w w' := by
  obtain ⟨i5, hi, hz, hs, hb⟩ := info_u32
  have h0 : w.ownsRow w.heap.size 29 1 (.slice none 0 0) 0 [] := ⟨rfl, .inl ⟨rfl, rfl⟩⟩
  have HF : Hid (∀ w' v, w'.ownsRow w.heap.size 29 1 v (0 + ns.length) ([] ++ ns.map fun x => Value.int .u32 (x : Nat)) → ∃ ao' cap', v = .slice ao' ns.length cap' ∧ Wd w' ao' ns) := hide (by
    intro w' v h
    rcases h.2 with ⟨h1, h2⟩ | ⟨g, cap, cur, h1, _, h3, _, _, _, h7⟩
    · exact ⟨none, 0, by rw [h1]; congr 1; omega, fun j hj => by omega⟩
    · refine ⟨_, cap, by rw [h1]; congr 1; omega, fun j hj => ⟨⟨g, 0, none⟩, rfl, ?_⟩⟩
      rw [add0, Lib.cell_of_heap h3]
      have e : ([] ++ ns.map fun x => Value.int .u32 ((x : Nat) : Int))[j]? = some (.int .u32 (ns[j] : Nat)) := by simp [hj]
      rw [← h7, List.getElem?_take] at e
      split at e
      · rw [← Array.getElem?_toList]; exact e
      · simp at e)
  cases ao with
  | none =>
    obtain ⟨e1, rfl⟩ := ha rfl
    obtain rfl := List.eq_nil_of_length_eq_zero e1
    go_enter Tryd.func19, Tryd.ntmps19
    go_wp2
    go_ret
    exact ⟨none, ⟨0, rfl⟩, fun j hj => by simp at hj, Below.refl _ _⟩
  | some a =>
    have HN : Hid (∀ j u, (ns.map fun x => Value.int .u32 ((x : Nat) : Int))[j]? = some u → w.cell? (a.add j) = some u) := hide (by
      intro j u hu
      rw [List.getElem?_map] at hu
      by_cases hj : j < ns.length
      · obtain ⟨a', h1, h2⟩ := hW j hj
        cases h1
        rw [List.getElem?_eq_getElem hj] at hu
        simp at hu
        rw [h2, ← hu]
      · rw [List.getElem?_eq_none (by omega)] at hu
        simp at hu)
    clear hW ha
    go_enter Tryd.func19, Tryd.ntmps19
    go_upto_region 3 with (at_builtin; refine wpList_append_own _ rfl _ _ 25 rfl w.heap.size 29 i5 (.int .u32 0) 1 4 Tryd.underlying25 hi hz hs hb rfl (by decide) (.slice none 0 0) 0 [] rfl h0 a ns.length cap (ns.map fun x => Value.int .u32 (x : Nat)) rfl (by simp) HN.out (by intro u hu; simp at hu; obtain ⟨x, _, rfl⟩ := hu; rfl) (by unfold maxLen; omega) (by omega) (by omega) ?_; intro v2 w2 ho2 hg2 _; obtain ⟨a2, c2, rfl, hw2⟩ := HF.out _ _ ho2)
    have HB2 := hide ((Below.refl w.heap.size w).grown hg2 (by omega) (fun j hj => by simp [Value.ownBlock] at hj))
    have HW2 := hide hw2
    clear ho2 hg2 hw2
    go_wp2
    go_ret
    exact ⟨a2, ⟨c2, rfl⟩, HW2.out, HB2.out⟩
set_option maxRecDepth 100000 in
set_option maxHeartbeats 1000000 in
theorem same_any (ao ao' : Option Addr) (cap cap' : Nat) (ns : List Nat) (hl : ns.length ≤ 1048576) (hW : Wd w ao ns) (hW' : Wd w ao' ns) : Calls Tryd.prog 15 #[.slice ao ns.length cap, .slice ao' ns.length cap'] w fun e w' => e = .returned (.bool true) ∧ Below w.heap.size w w' := by
  have HW := hide hW
  have HV := hide hW'
  clear hW hW'
  go_enter Tryd.func15, Tryd.ntmps15
  go_upto_region 4 with fail
  go_loopw [5] (fun k wr => ∃ j : Nat, j ≤ ns.length ∧ k = .int .i64 (j : Int) ∧ ∃ d, wr = w.drewN d) (fun k _ => ns.length - (intOf k).toNat)
  case atStart => exact ⟨0, by omega, rfl, 0, by rw [World.drewN_zero]⟩
  case round =>
  obtain ⟨j, hj, rfl, d, rfl⟩ := hrel
  by_cases hlt : j < ns.length
  · obtain ⟨a, rfl, c0⟩ := HW.out j hlt
    obtain ⟨b, rfl, c1⟩ := HV.out j hlt
    have hd : (j : Int) < (ns.length : Int) := by omega
    generalize ns[j] = x at *
    have e0 : ∀ n, (w.drewN n).cell? (a.add j) = some (.int .u32 (x : Nat)) := fun n => by rw [World.cell?_drewN]; exact c0
    have e1 : ∀ n, (w.drewN n).cell? (b.add j) = some (.int .u32 (x : Nat)) := fun n => by rw [World.cell?_drewN]; exact c1
    go_upto_region 6 with fail
    go_region
    go_wp2
    refine ⟨⟨j + 1, by omega, by simp, d + 1, rfl⟩, ?_⟩
    simp [intOf]
    omega
  · obtain rfl : j = ns.length := by omega
    go_wp2
    go_ret
    exact ⟨rfl, rfl, rfl, rfl, Nat.le_refl _, fun _ _ => rfl⟩
end
end Go.Proofs.YtncbbllmhohnkaaDoor
