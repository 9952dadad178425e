import Derived.Test.YtncbbllmhohnkaaDoorUR
namespace Go.Proofs.YtncbbllmhohnkaaDoor
open Go.RowKit
/-- the labels of the first k lines -/
def lbs (ls : List Ln) : Nat → List (Tx × (Nat × Int))
  | 0 => []
  | k + 1 => match ls[k]? with
    | none => lbs ls k
    | some l => if l.label ≠ [] ∧ atK KS (lbs ls k) l.label = none then lbs ls k ++ [(l.label, (k, ahd ls k))] else lbs ls k
theorem ahd_step {ls : List Ln} {k : Nat} (h : k < ls.length) : ahd ls (k + 1) = ahd ls k + ls[k].words := by
  unfold ahd
  rw [List.take_succ_eq_append_getElem h, List.map_append, List.sum_append]
  simp
theorem ahd_bound {ls : List Ln} (hw : ∀ l ∈ ls, 0 ≤ l.words ∧ l.words ≤ 512) : ∀ k, k ≤ ls.length → 0 ≤ ahd ls k ∧ ahd ls k ≤ 512 * k
  | 0, _ => by simp [ahd]
  | k + 1, h => by
    have ih := ahd_bound hw k (by omega)
    have h2 := hw ls[k] (List.getElem_mem h)
    rw [ahd_step h]
    omega
/-- lines that lie in a row -/
def LRow (W : World) (ao : Option Addr) (ls : List Ln) : Prop := ∀ k (h : k < ls.length), ∃ a : Addr, ao = some a ∧ ∀ j v, (lnL ls[k])[j]? = some v → W.cell? ((a.add (k * 8)).add j) = some v
theorem LRow.keep {W W' : World} {ao : Option Addr} {ls : List Ln} (h : LRow W ao ls) (hb : Below W.heap.size W W') : LRow W' ao ls := fun k hk => by
  obtain ⟨a, h1, h2⟩ := h k hk
  exact ⟨a, h1, fun j v hv => by rw [hb.cell (cell_blk (h2 j v hv))]; exact h2 j v hv⟩
theorem LRow.of {W : World} {base n : Nat} {e : TypeId} {v : Value} {ls : List Ln} (h : W.ownsRow base e 8 v n (lns ls)) : n = ls.length ∧ ∃ ao c, v = .slice ao n c ∧ LRow W ao ls := by
  have hl := h.1
  rw [lns_len] at hl
  refine ⟨by omega, ?_⟩
  rcases h.2 with ⟨h1, h2⟩ | ⟨g, cap, cur, h1, h2, h3, _, _, _, h7⟩
  · exact ⟨none, 0, by rw [h1, h2], fun j hj => by omega⟩
  · refine ⟨_, _, h1, fun k hk => ⟨_, rfl, fun j v hv => ?_⟩⟩
    have hj : j < 8 := by
      have := (List.getElem?_eq_some_iff.1 hv).1
      simpa [lnL] using this
    rw [add0, Lib.add_plain, Lib.cell_of_heap h3]
    have e : (cur.toList.take (n * 8))[k * 8 + j]? = some v := by rw [h7, lns_at hk hj]; exact hv
    rw [List.getElem?_take] at e
    split at e
    · rw [← Array.getElem?_toList]; exact e
    · simp at e
/-- w1 is w but for the block r -/
structure Upd (w w1 : World) (r : Nat) : Prop where
  os : w1.os = w.os
  tape : w1.tape = w.tape
  output : w1.output = w.output
  size : w1.heap.size = w.heap.size
  block : ∀ b, b ≠ r → w1.heap[b]? = w.heap[b]?
theorem lb_push {w : World} {r : Nat} {ps : List (Tx × (Nat × Int))} (h : Lb w r ps) (a : Tx) (k : Nat) (z : Int) (hn : atK KS ps a = none) :
    ∃ w1, (Instr.mapUpdate 55 (.map (some r)) (.string ⟨a.toArray⟩) (.agg #[.int .i64 (k : Nat), .int .i64 z])).run Tryd.prog w = .ok () w1 ∧ Lb w1 r (ps ++ [(a, (k, z))]) ∧ Upd w w1 r := by
  obtain ⟨es, c, h1, h2⟩ := run_push key_str Tryd.underlying55 h a (k, z) hn
  exact ⟨_, h1, h2, ⟨rfl, rfl, rfl, by simp [World.putObj], fun _ hb => World.putObj_heap_other hb⟩⟩
theorem Upd.below {w w1 v : World} {r B : Nat} (h : Upd w w1 r) (hb : Below B v w) (hr : B ≤ r) : Below B v w1 :=
  ⟨h.os.trans hb.os, h.tape.trans hb.tape, h.output.trans hb.output, by rw [h.size]; exact hb.size, fun k hk => (h.block k (by omega)).trans (hb.block k hk)⟩
section
variable (w : World)
set_option maxRecDepth 100000 in
set_option maxHeartbeats 2000000 in
theorem findLabels_any (ls : List Ln) (ao : Option Addr) (cap : Nat) (hl : ls.length ≤ 16385) (hw : ∀ l ∈ ls, 0 ≤ l.words ∧ l.words ≤ 512) (hR : LRow w ao ls) : Calls Tryd.prog 23 #[.slice ao ls.length cap] w fun e w' => ∃ r, e = .returned (.map (some r)) ∧ Lb w' r (lbs ls ls.length) ∧ w.heap.size ≤ r ∧ Below w.heap.size w w' := by
  have hmm : ∀ W, (Instr.makeMap 55 none).run Tryd.prog W = .ok (.map (some W.heap.size)) (W.alloc (.map #[] 0)) := fun _ => rfl
  have HR := hide hR
  have HW := hide (ahd_bound hw)
  have HW1 := hide hw
  clear hR hw
  go_enter Tryd.func23, Tryd.ntmps23
  go_upto_region 4 with fail
  go_loopw [4, 12] (fun u v wr => ∃ k : Nat, u = .int .i64 (ahd ls k) ∧ v = .int .i64 (k : Int) ∧ k ≤ ls.length ∧ Lb wr w.heap.size (lbs ls k) ∧ Below w.heap.size w wr ∧ w.heap.size < wr.heap.size) (fun _ v _ => ls.length - (intOf v).toNat)
  case atStart => exact ⟨0, rfl, rfl, by omega, ⟨#[], 0, heap_alloc_last _ _, rfl⟩, bel1 _ _, by simp⟩
  case round =>
  obtain ⟨k, rfl, rfl, hk, hLb, hB, hsz⟩ := hrel
  by_cases hlt : k < ls.length
  · obtain ⟨a, rfl, ha⟩ := (HR.out.keep hB) k hlt
    have hd : (k : Int) < (ls.length : Int) := by omega
    have hb0 := HW.out k (by omega)
    have hwd := HW1.out ls[k] (List.getElem_mem hlt)
    have HA := hide ha
    have HS : Hid (ahd ls (k + 1) = ahd ls k + ls[k].words) := hide (ahd_step hlt)
    have HLs : Hid (lbs ls (k + 1) = if ls[k].label ≠ [] ∧ atK KS (lbs ls k) ls[k].label = none then lbs ls k ++ [(ls[k].label, (k, ahd ls k))] else lbs ls k) := hide (by
      rw [lbs, List.getElem?_eq_getElem hlt])
    have HLb := hide hLb
    have HB := hide hB
    clear ha hLb hB
    generalize ls[k] = L at *
    generalize ahd ls k = wd at *
    generalize lbs ls k = ps at *
    obtain ⟨wrong, label, ⟨op, ia, ib, imm⟩, name, words⟩ := L
    go_upto_region 6 with (refine loadT Tryd.underlying60 rfl [.bool wrong, .string ⟨label.toArray⟩, .int .i64 op, .int .i64 ia, .int .i64 ib, .int .i64 imm, .string ⟨name.toArray⟩, .int .i64 words] (by kernel_rfl) rfl _ rfl (a.add (k * 8)) rfl HA.out ?_)
    have HLb1 := hide (HLb.out.keep (bel1 wr (.cells #[.bool wrong, .string ⟨label.toArray⟩, .int .i64 op, .int .i64 ia, .int .i64 ib, .int .i64 imm, .string ⟨name.toArray⟩, .int .i64 words] 60)))
    have HB1 := hide (HB.out.alloc HB.out.size (.cells #[.bool wrong, .string ⟨label.toArray⟩, .int .i64 op, .int .i64 ia, .int .i64 ib, .int .i64 imm, .string ⟨name.toArray⟩, .int .i64 words] 60))
    have hG : LnAt (wr.alloc (.cells #[.bool wrong, .string ⟨label.toArray⟩, .int .i64 op, .int .i64 ia, .int .i64 ib, .int .i64 imm, .string ⟨name.toArray⟩, .int .i64 words] 60)) wr.heap.size ⟨wrong, label, ⟨op, ia, ib, imm⟩, name, words⟩ := heap_alloc_last _ _
    have hs1 : w.heap.size < (wr.alloc (.cells #[.bool wrong, .string ⟨label.toArray⟩, .int .i64 op, .int .i64 ia, .int .i64 ib, .int .i64 imm, .string ⟨name.toArray⟩, .int .i64 words] 60)).heap.size := by simp; omega
    generalize wr.alloc (.cells #[.bool wrong, .string ⟨label.toArray⟩, .int .i64 op, .int .i64 ia, .int .i64 ib, .int .i64 imm, .string ⟨name.toArray⟩, .int .i64 words] 60) = W at *
    generalize wr.heap.size = g at *
    obtain ⟨q0, q1, q2, q3, q4, q5, q6, q7⟩ := hG.cells
    have hgl := hG.lt
    have hlk := lookT HLb1.out label
    clear hG HA HB HLb
    have HV2 : Hid (wrap64 (wd + words) = wd + words) := hide (by
      have h1 : 0 ≤ words ∧ words ≤ 512 := hwd
      unfold wrap64; omega)
    by_cases h0 : label = []
    · subst h0
      have HLs2 : Hid (lbs ls (k + 1) = ps) := hide (by rw [HLs.out, if_neg (by simp)])
      cases hat : atK KS ps [] with
      | none =>
        rw [hat] at hlk
        simp only [Option.map_none, Option.getD_none, Option.isSome_none] at hlk
        clear hat HLs
        go_wp2
        refine ⟨⟨k + 1, by rw [HS.out, HV2.out], by simp, by omega, by rw [HLs2.out]; exact HLb1.out.keep (bel1 _ _), HB1.out.alloc HB1.out.size _, by simp; omega⟩, ?_⟩
        simp [intOf]
        omega
      | some m =>
        obtain ⟨m1, m2⟩ := m
        rw [hat] at hlk
        simp only [Option.map_some, Option.getD_some, Option.isSome_some, mkE] at hlk
        clear hat HLs
        go_wp2
        refine ⟨⟨k + 1, by rw [HS.out, HV2.out], by simp, by omega, by rw [HLs2.out]; exact HLb1.out.keep (bel1 _ _), HB1.out.alloc HB1.out.size _, by simp; omega⟩, ?_⟩
        simp [intOf]
        omega
    · have hne : List.isEmpty label = false := by simpa using h0
      cases hat : atK KS ps label with
      | some m =>
        have HLs2 : Hid (lbs ls (k + 1) = ps) := hide (by rw [HLs.out, if_neg (by rw [hat]; simp)])
        obtain ⟨m1, m2⟩ := m
        rw [hat] at hlk
        simp only [Option.map_some, Option.getD_some, Option.isSome_some, mkE] at hlk
        clear hat HLs h0
        go_wp2
        refine ⟨⟨k + 1, by rw [HS.out, HV2.out], by simp, by omega, by rw [HLs2.out]; exact HLb1.out.keep (bel1 _ _), HB1.out.alloc HB1.out.size _, by simp; omega⟩, ?_⟩
        simp [intOf]
        omega
      | none =>
        have HLs2 : Hid (lbs ls (k + 1) = ps ++ [(label, (k, wd))]) := hide (by rw [HLs.out, if_pos ⟨h0, hat⟩])
        rw [hat] at hlk
        simp only [Option.map_none, Option.getD_none, Option.isSome_none] at hlk
        obtain ⟨w9, hup, hLb9, hUp⟩ := lb_push (HLb1.out.keep (bel1 W (.cells #[.int .i64 0, .int .i64 0] 87))) label k wd hat
        have HB9 := hide (hUp.below (HB1.out.alloc HB1.out.size (.cells #[.int .i64 0, .int .i64 0] 87)) (Nat.le_refl _))
        have hs9 : w9.heap.size = W.heap.size + 1 := by rw [hUp.size]; simp
        have cw : w9.cell? ⟨g, 7, none⟩ = some (.int .i64 words) := by
          rw [World.cell?_of_block (a := ⟨g, 7, none⟩) (hUp.block g (by have := HB1.out.size; omega))]
          rw [(bel1 W _).cell (p := ⟨g, 7, none⟩) hgl]
          exact q7
        have HLb9 := hide hLb9
        clear hat HLs h0 hLb9 hUp
        go_wp2
        refine ⟨⟨k + 1, by rw [HS.out, HV2.out], by simp, by omega, by rw [HLs2.out]; exact HLb9.out, HB9.out, by omega⟩, ?_⟩
        simp [intOf]
        omega
  · obtain rfl : k = ls.length := by omega
    have HLb := hide hLb
    have HB := hide hB
    clear hLb hB
    go_wp2
    go_ret
    exact ⟨_, rfl, HLb.out, Nat.le_refl _, HB.out⟩
end
end Go.Proofs.YtncbbllmhohnkaaDoor
