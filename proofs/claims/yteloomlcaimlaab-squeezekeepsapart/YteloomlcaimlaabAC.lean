import Derived.Test.YteloomlcaimlaabAB
namespace Go.Proofs.Yteloomlcaimlaab
open Go.RowKit
/-- the string of bytes -/
def stg (zs : List Nat) : ByteArray := strOfNums (zs.map Int.ofNat)
theorem conv_addr {P : Program} (w : World) (src e : TypeId) (hs : P.underlying src = some (.slice e)) (he : P.underlying e = some (.int .u8)) (x : Addr) (cap : Nat) (zs : List Nat)
    (hcell : ∀ i u, (zs.map By)[i]? = some u → w.cell? (x.add i) = some u) :
    ∀ dst, P.underlying dst = some .string → (convert src dst (.slice (some x) zs.length cap)).run P w = .ok (.string (stg zs)) w := by
  intro dst hd
  have hl : (loadCells x zs.length).run P w = .ok ((zs.map Int.ofNat).map (Value.int .u8)).toArray w := by
    have := run_loadCells_list (P := P) w x (zs.map By) hcell
    rw [List.length_map] at this
    rw [this]
    congr 1
    simp [By]
  rw [run_convert_bytes_string w src dst e _ zs.length cap hs he hd, run_bytesToString w _ zs.length cap (zs.map Int.ofNat) hl, foldl_push_bytes]
  simp [stg, strOfNums, ByteArray.empty, ByteArray.emptyWithCapacity]
  rfl
theorem Rb.conv {w : World} {B : Nat} {v : Value} {zs : List Nat} (h : Rb w B v zs) : (convert 22 9 v).run Try.prog w = .ok (.string (stg zs)) w := by
  rcases h with ⟨rfl, rfl⟩ | ⟨x, cap, rfl, _, hc⟩
  · exact run_convert_bytes_nil w 22 5 Try.underlying22 Try.underlying5 0 0 9 Try.underlying9
  · exact conv_addr w 22 5 Try.underlying22 Try.underlying5 x cap zs (fun i u hu => (hc i u hu).2) 9 Try.underlying9
theorem stg_eq {xs ys : List Nat} (hx : Bys xs) (hy : Bys ys) : ((stg xs).toList == (stg ys).toList) = decide (xs = ys) := by
  have h : (stg xs).data.toList = (stg ys).data.toList ↔ xs = ys := by
    constructor
    · intro e1
      unfold stg at e1
      rw [strOfNums_data, strOfNums_data, List.map_map, List.map_map] at e1
      have key : ∀ (l : List Nat), Bys l → (l.map ((fun n : Int => UInt8.ofNat n.toNat) ∘ Int.ofNat)).map UInt8.toNat = l := by
        intro l hl
        rw [List.map_map]
        conv => rhs; rw [← List.map_id l]
        apply List.map_congr_left
        intro a ha
        have := hl a ha
        simp [Function.comp]
        omega
      rw [← key xs hx, ← key ys hy, e1]
    · intro e; rw [e]
  rw [ByteArray.toList_eq, ByteArray.toList_eq]
  by_cases e : xs = ys
  · subst e; simp
  · have : ¬ (stg xs).data.toList = (stg ys).data.toList := fun h' => e (h.1 h')
    rw [decide_eq_false e]
    exact beq_eq_false_iff_ne.2 this
section
variable (w : World)
set_option maxHeartbeats 1000000 in
theorem Equal_any (v u : Value) (xs ys : List Nat) (B B' : Nat) (h1 : Rb w B v xs) (h2 : Rb w B' u ys) (hx : Bys xs) (hy : Bys ys) :
    Calls Try.prog 25 #[v, u] w fun e w' => e = .returned (.bool (decide (xs = ys))) ∧ w' = w := by
  have c1 := h1.conv
  have c2 := h2.conv
  have he := stg_eq hx hy
  clear h1 h2 hx hy
  generalize decide (xs = ys) = bv at *
  generalize stg xs = S at *
  generalize stg ys = T at *
  go_enter Try.func25, Try.ntmps25
  go_wp2
  go_ret
  exact ⟨rfl, rfl⟩
end
end Go.Proofs.Yteloomlcaimlaab
