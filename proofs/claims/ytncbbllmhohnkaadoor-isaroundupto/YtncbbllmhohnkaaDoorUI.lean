import Derived.Test.YtncbbllmhohnkaaDoorUH
import Derived.Test.YtncbbllmhohnkaaDoorTD
namespace Go.Proofs.YtncbbllmhohnkaaDoor
open Go.RowKit
/-- the table as one value -/
def opL : List Value := (List.range 27).flatMap fun n => [.string ⟨(nm n).toArray⟩, .bool (uA n), .bool (uB n), .int .i64 (kd n : Nat)]
theorem opL_len : opL.length = 108 := rfl
theorem opL_at (n : Nat) (hn : n < 27) : opL[n * 4]? = some (.string ⟨(nm n).toArray⟩) ∧ opL[n * 4 + 1]? = some (.bool (uA n)) ∧ opL[n * 4 + 2]? = some (.bool (uB n)) ∧ opL[n * 4 + 3]? = some (.int .i64 (kd n : Nat)) := by
  have h : n = 0 ∨ n = 1 ∨ n = 2 ∨ n = 3 ∨ n = 4 ∨ n = 5 ∨ n = 6 ∨ n = 7 ∨ n = 8 ∨ n = 9 ∨ n = 10 ∨ n = 11 ∨ n = 12 ∨ n = 13 ∨ n = 14 ∨ n = 15 ∨ n = 16 ∨ n = 17 ∨ n = 18 ∨ n = 19 ∨ n = 20 ∨ n = 21 ∨ n = 22 ∨ n = 23 ∨ n = 24 ∨ n = 25 ∨ n = 26 := by omega
  rcases h with rfl | rfl | rfl | rfl | rfl | rfl | rfl | rfl | rfl | rfl | rfl | rfl | rfl | rfl | rfl | rfl | rfl | rfl | rfl | rfl | rfl | rfl | rfl | rfl | rfl | rfl | rfl <;> exact ⟨rfl, rfl, rfl, rfl⟩
theorem Ops.all {w : World} (h : Ops w) : ∀ (j : Nat) (v : Value), opL[j]? = some v → w.cell? ((⟨0, 0, none⟩ : Addr).add j) = some v := by
  intro j v hv
  have hj : j < 108 := by
    have := (List.getElem?_eq_some_iff.1 hv).1
    rw [opL_len] at this
    exact this
  rw [add0]
  obtain ⟨n, k, hn, hk, rfl⟩ : ∃ n k, n < 27 ∧ k < 4 ∧ j = n * 4 + k := ⟨j / 4, j % 4, by omega, by omega, by omega⟩
  obtain ⟨e0, e1, e2, e3⟩ := opL_at n hn
  match k, hk with
  | 0, _ => rw [Nat.add_zero] at hv ⊢; rw [h.name hn, ← e0, hv]
  | 1, _ => rw [h.a n hn, ← e1, hv]
  | 2, _ => rw [h.b n hn, ← e2, hv]
  | 3, _ => rw [h.k n hn, ← e3, hv]
theorem opT_at {s : Tx} {k : Nat} (hk : k < 27) (h0 : ∀ n, n < k → (n != 0 && nm n == s) = false) (h1 : (k != 0 && nm k == s) = true) : opT s = k := by
  have e : (List.range 27).find? (fun n => n != 0 && nm n == s) = some k := by
    rw [List.find?_eq_some_iff_append]
    refine ⟨h1, List.range k, List.range' (k + 1) (26 - k), ?_, fun n hn => by
      have := h0 n (List.mem_range.1 hn)
      simp only [this, Bool.not_false]⟩
    rw [List.range_eq_range', List.range_eq_range', show k :: List.range' (k + 1) (26 - k) = List.range' k (27 - k) by rw [show 27 - k = (26 - k) + 1 by omega, List.range'_succ]]
    have e := List.range'_append_1 (s := 0) (m := k) (n := 27 - k)
    rw [Nat.zero_add, show k + (27 - k) = 27 by omega] at e
    exact e.symm
  unfold opT
  rw [e]; rfl
theorem opT_none {s : Tx} (h0 : ∀ n, n < 27 → (n != 0 && nm n == s) = false) : opT s = 0 := by
  have e : (List.range 27).find? (fun n => n != 0 && nm n == s) = none := by
    rw [List.find?_eq_none]
    intro n hn
    rw [h0 n (List.mem_range.1 hn)]
    simp
  unfold opT
  rw [e]; rfl
/-- a struct or an array loaded out of whatever address -/
theorem loadT {t : TypeId} {d : TypeDesc} (hu : Tryd.prog.underlying t = some d) (hd : (match d with | .struct _ | .array _ _ => true | _ => false) = true) (cs : List Value) (hi : (Tryd.prog.info? t).map (·.size) = some cs.length) {ops : Array Oper} {rest : List Oper} {op : Oper} {a : Act} {w : World} {Q : Exit → Act → World → Prop} (hw : Region.wanted op (yielded ops a.tmps) = true) (x : Operand) (ho : op.op = .load t x) (ad : Addr)
    (hx : a.eval x = .pointer (some ad)) (hc : ∀ (j : Nat) (v : Value), cs[j]? = some v → w.cell? (ad.add j) = some v) (h : wpList Tryd.prog ops Q rest (a.put op.dst (.agg cs.toArray)) w) : wpList Tryd.prog ops Q (op :: rest) a w :=
  BigFrame.wpList_want hw fun _ hK => by
    have hl : (loadCells ad cs.length).run Tryd.prog w = .ok cs.toArray w := run_loadCells_list w ad cs hc
    have hv : (loadVar t ad).run Tryd.prog w = .ok (.agg cs.toArray) w := by
      cases hq : Tryd.prog.info? t with
      | none => simp [hq] at hi
      | some i =>
        have hs : i.size = cs.length := by simpa [hq] using hi
        have hagg : (isAgg t).run Tryd.prog w = .ok true w := by
          unfold isAgg
          rw [Sem.run_bind, run_underlying hu w]
          cases d <;> simp_all
        simp [loadVar, Sem.run_bind, hagg, sizeOf, typeInfo, hq, hs, hl]
    unfold Oper.wp execOp
    simp only [ho, hx, Instr.loadAt, Instr.sureAddr, Sem.run_bind, Sem.run_pure, Result.andThen_ok, hv]
    exact hK _ _ h
theorem idxO (w : World) (A : Array Value) (hA : A.size = 108) (k : Nat) (hk : k < 27) (a b c d : Value) (h1 : A[k * 4]? = some a) (h2 : A[k * 4 + 1]? = some b) (h3 : A[k * 4 + 2]? = some c) (h4 : A[k * 4 + 3]? = some d) : (Instr.index 92 (.agg A) (.int .i64 (k : Int))).run Tryd.prog w = .ok (.agg #[a, b, c, d]) w := by
  have hk' : (0 : Int) ≤ k ∧ (k : Int) < 27 := by omega
  unfold Instr.index
  have hsz : (sizeOf 91).run Tryd.prog w = .ok 4 w := by kernel_rfl
  have hx : A.extract (k * 4) (k * 4 + 4) = #[a, b, c, d] := by
    apply Array.ext_getElem?
    intro j
    rw [Array.getElem?_extract]
    by_cases e0 : j < 4
    · rw [if_pos (by omega)]
      match j, e0 with
      | 0, _ => simpa using h1
      | 1, _ => simpa using h2
      | 2, _ => simpa using h3
      | 3, _ => simpa using h4
    · rw [if_neg (by omega), Array.getElem?_eq_none (by simp; omega)]
  simp [Sem.run_bind, asIntOf, run_underlying Tryd.underlying92, hk', hsz, part, hx]
  intro h; omega
section
variable (w : World)
set_option maxRecDepth 100000 in
set_option maxHeartbeats 1000000 in
theorem opNamed_any (s : Tx) (hO : Ops w) : Calls Tryd.prog 94 #[.string ⟨s.toArray⟩] w fun e w' => e = .returned (.int .i64 (opT s : Nat)) ∧ Below w.heap.size w w' := by
  have HA := hide hO.all
  clear hO
  obtain ⟨A, hA⟩ : ∃ A, A = opL := ⟨_, rfl⟩
  rw [← hA] at HA
  have hlen : A.length = 108 := by rw [hA]; exact opL_len
  have HX : Hid (∀ (k : Nat), k < 27 → ∀ (W : World), (Instr.index 92 (.agg A.toArray) (.int .i64 (k : Int))).run Tryd.prog W = .ok (.agg #[.string ⟨(nm k).toArray⟩, .bool (uA k), .bool (uB k), .int .i64 (kd k : Nat)]) W) := hide (fun k hk W => by
    obtain ⟨e0, e1, e2, e3⟩ := opL_at k hk
    rw [← hA] at e0 e1 e2 e3
    exact idxO W A.toArray (by simpa using hlen) k hk _ _ _ _ (by simpa using e0) (by simpa using e1) (by simpa using e2) (by simpa using e3))
  have HN := hide hlen
  clear hlen hA
  go_enter Tryd.func94, Tryd.ntmps94
  go_upto_region 2 with (refine loadT Tryd.underlying92 rfl A (by rw [HN.out]; kernel_rfl) rfl _ rfl ⟨0, 0, none⟩ rfl HA.out ?_)
  go_loopw [2, 6] (fun r u wr => ∃ k : Nat, r = .int .i64 0 ∧ k ≤ 27 ∧ u = .int .i64 (k : Int) ∧ (∀ n, n < k → (n != 0 && nm n == s) = false) ∧ Below w.heap.size w wr) (fun _ u _ => 27 - (intOf u).toNat)
  case atStart => exact ⟨0, rfl, by omega, rfl, fun n h => by omega, Below.refl _ _⟩
  case round =>
  obtain ⟨k, rfl, hk, rfl, hno, hB⟩ := hrel
  have HNo := hide hno
  have HB := hide hB
  clear hno hB
  by_cases hlt : k < 27
  · have hd : (k : Int) < 27 := by omega
    have hix := HX.out k hlt
    by_cases h0 : k = 0
    · subst h0
      have hix0 : ∀ (W : World), (Instr.index 92 (.agg A.toArray) (.int .i64 0)).run Tryd.prog W = .ok (.agg #[.string ⟨(nm 0).toArray⟩, .bool (uA 0), .bool (uB 0), .int .i64 (kd 0 : Nat)]) W := hix
      clear hix hd
      go_wp2
      refine ⟨⟨1, rfl, by omega, rfl, fun n hn => by
        obtain rfl : n = 0 := by omega
        rfl, HB.out.alloc HB.out.size _⟩, by simp [intOf]⟩
    · have h0' : ((k : Int) != 0) = true := by simp; omega
      have h0n : (k != 0) = true := by simpa using h0
      have HO : Hid ((nm k == s) = true → opT s = k) := hide (fun e => opT_at hlt HNo.out (by rw [h0n, e]; rfl))
      cases hx : (nm k == s) with
      | true =>
        have HO2 := hide (HO.out hx)
        clear HO
        generalize nm k = nn at *
        generalize uA k = ua at *
        generalize uB k = ub at *
        generalize kd k = kk at *
        go_wp2
        go_ret
        exact ⟨by rw [HO2.out]; rfl, HB.out.alloc HB.out.size _⟩
      | false =>
        have HF : Hid ((k != 0 && nm k == s) = false) := hide (by rw [hx]; simp)
        generalize uA k = ua at *
        generalize uB k = ub at *
        generalize kd k = kk at *
        go_wp2
        refine ⟨⟨k + 1, rfl, by omega, by simp, fun n hn => by
          by_cases e : n = k
          · subst e; exact HF.out
          · exact HNo.out n (by omega), HB.out.alloc HB.out.size _⟩, ?_⟩
        simp [intOf]
        omega
  · obtain rfl : k = 27 := by omega
    have HV := hide (opT_none HNo.out)
    go_wp2
    go_ret
    exact ⟨by rw [HV.out]; rfl, HB.out⟩
end
end Go.Proofs.YtncbbllmhohnkaaDoor
