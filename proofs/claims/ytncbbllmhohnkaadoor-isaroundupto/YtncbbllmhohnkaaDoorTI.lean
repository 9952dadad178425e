import Derived.Test.YtncbbllmhohnkaaDoorTH
namespace Go.Proofs.YtncbbllmhohnkaaDoor
open Go.RowKit
/-- words that lie in a slice -/
def Wd (W : World) (ao : Option Addr) (ns : List Nat) : Prop := ∀ j (h : j < ns.length), ∃ a : Addr, ao = some a ∧ W.cell? (a.add j) = some (.int .u32 (ns[j] : Nat))
theorem addr_lt {w : World} {a : Addr} {v : Value} (h : w.cell? a = some v) : a.block < w.heap.size := by
  by_cases hb : a.block < w.heap.size
  · exact hb
  · have e : w.heap[a.block]? = none := Array.getElem?_eq_none (by omega)
    simp [World.cell?, e] at h
theorem Wd.below {W W' : World} {ao : Option Addr} {ns : List Nat} (h : Wd W ao ns) (hb : Below W.heap.size W W') : Wd W' ao ns := fun j hj => by
  obtain ⟨a, h1, h2⟩ := h j hj
  exact ⟨a, h1, by rw [hb.cell (addr_lt h2)]; exact h2⟩
theorem ownF_below {w w' : World} {base : Nat} {e : TypeId} {size : Nat} {v : Value} {n : Nat} {xs : List Value} (h : w.ownsRowF base e size v n xs) (hb : Below w.heap.size w w') : w'.ownsRowF base e size v n xs :=
  h.kept (row := none) ⟨hb.os, hb.tape, hb.output, hb.size, fun k hk _ => hb.block k hk⟩ (by
    cases e : v.ownBlock with
    | none => exact .inl rfl
    | some k => exact .inr (by simp))
theorem isb_below {T e : TypeId} {B b : Nat} {bs : List Value} {w w' : World} (h : Lib.IsBuilderF T e B b bs w) (hb : Below w.heap.size w w') : Lib.IsBuilderF T e B b bs w' := by
  rcases h with ⟨hB, v, h1, h2, h3⟩ | ⟨hB, v, h1, h2, h3⟩
  · exact .inl ⟨hB, v, by rw [hb.block b (heap_lt b h1)]; exact h1, ownF_below h2 hb, h3⟩
  · exact .inr ⟨hB, v, by rw [hb.block b (heap_lt b h1)]; exact h1, ownF_below h2 hb, h3⟩
theorem tls_len (ns : List Nat) : (tls ns).length ≤ 41 * ns.length := by
  induction ns with
  | nil => simp [tls]
  | cons x r ih =>
    have := tl_len x
    simp [tls]
    omega
theorem tls_take {ns : List Nat} {j : Nat} (h : j < ns.length) : tls (ns.take (j + 1)) = tls (ns.take j) ++ tl ns[j] ++ [10] := by
  rw [List.take_succ_eq_append_getElem h, tls_one]
section
variable (w : World)
set_option maxRecDepth 100000 in
set_option maxHeartbeats 2000000 in
theorem dis_any (ao : Option Addr) (cap : Nat) (ns : List Nat) (hn : ∀ x ∈ ns, x < 4294967296) (hl : ns.length ≤ 1048576) (hW : Wd w ao ns) (hT : Tb w) : Calls Tryd.prog 20 #[.slice ao ns.length cap] w fun e w' => e = .returned (.string ⟨(tls ns).toArray⟩) ∧ Below w.heap.size w w' := by
  have h0 : Lib.IsBuilderF 76 5 w.heap.size w.heap.size [] (w.alloc (.cells #[.pointer none, .slice none 0 0] 76)) := .inl ⟨Nat.le_refl _, .slice none 0 0, heap_alloc_last _ _, World.ownsRowF_nil _ _ _ _, by simp [Value.ownBlock]⟩
  have H0 := hide h0
  have HW := hide hW
  have HT := hide hT
  have HN := hide hn
  clear h0 hW hT hn
  go_enter Tryd.func20, Tryd.ntmps20
  go_upto_region 3 with fail
  go_loopw [8] (fun k wr => ∃ j : Nat, j ≤ ns.length ∧ k = .int .i64 (j : Int) ∧ Lib.IsBuilderF 76 5 w.heap.size w.heap.size (Lib.byteCells (tls (ns.take j))) wr ∧ Below w.heap.size w wr) (fun k _ => ns.length - (intOf k).toNat)
  case atStart => exact ⟨0, by omega, rfl, H0.out, bel1 _ _⟩
  case round =>
  obtain ⟨j, hj, rfl, hI, hB⟩ := hrel
  have HI := hide hI
  have HB := hide hB
  have hsz := hB.size
  clear hI hB H0
  by_cases hlt : j < ns.length
  · obtain ⟨a, rfl, hc⟩ := (HW.out.below HB.out) j hlt
    have hx := HN.out ns[j] (List.getElem_mem hlt)
    have HS := hide (tls_take hlt)
    have hll := tls_len (ns.take j)
    have htl := tl_len ns[j]
    have hd : (j : Int) < (ns.length : Int) := by omega
    rw [List.length_take] at hll
    generalize ns[j] = x at *
    go_wp2_with fail
    refine (tell_any _ x hx (HT.out.below HB.out)).mono ?_
    rintro e w1 ⟨rfl, hb1⟩
    have HI1 := hide (isb_below HI.out hb1)
    have HB1 := hide (HB.out.trans (hb1.mono hsz))
    have hs1 := hb1.size
    clear hb1 HI HB hc
    go_wp2_with fail
    refine (sbStr _ _ _ _ _ HI1.out (by rw [Lib.byteCells_length]; simp [ByteArray.size]; omega) (by omega)).mono ?_
    rintro e w2 ⟨rfl, hI2, hb2⟩
    have HI2 := hide hI2
    have HB2 := hide (HB1.out.trans hb2)
    have hs2 := hb2.size
    clear hb2 hI2 HI1 HB1
    go_wp2_with fail
    refine (sbByte _ _ _ _ _ HI2.out (by rw [List.length_append, Lib.byteCells_length, Lib.strCells_length]; simp [ByteArray.size]; omega) HB2.out.size).mono ?_
    rintro e w3 ⟨rfl, hI3, hb3⟩
    have HI3 : Hid (Lib.IsBuilderF 76 5 w.heap.size w.heap.size (Lib.byteCells (tls (ns.take (j + 1)))) w3) := hide (by
      rw [HS.out, Lib.byteCells_append, Lib.byteCells_append]; exact hI3)
    have HB3 := hide (HB2.out.trans hb3)
    clear hb3 hI3 HI2 HB2
    go_wp2
    refine ⟨⟨j + 1, by omega, by simp, HI3.out, HB3.out⟩, ?_⟩
    simp [intOf]
    omega
  · obtain rfl : j = ns.length := by omega
    rw [List.take_length] at HI
    go_wp2_with fail
    refine (Tryd.sbString _ _ _ _ HI.out hsz).mono ?_
    rintro e w1 ⟨rfl, hb1⟩
    have HB1 := hide (HB.out.trans hb1)
    clear hb1 HI HB
    go_wp2
    go_ret
    exact ⟨rfl, HB1.out⟩
end
end Go.Proofs.YtncbbllmhohnkaaDoor
