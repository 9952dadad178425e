import Derived.Test.YtogpgchfaalikaaX3
import Derived.Maps.AppendAt
import Derived.OwnWalk
import Derived.ProofKit
import Derived.Deep.Slices
namespace Go.Proofs.Ytogpgchfaalikaa
open Go.ChangeShapes Go.WideShapes Go.ChangeAt Go.RowKit Go.Deep

theorem below_setCells {B : Nat} {a w : World} (h : Below B a w) {b : Nat} (hb : B ≤ b) (o : Nat) (vs : List Value) : Below B a (w.setCells b o vs) := by
  induction vs generalizing w o with
  | nil => exact h
  | cons v r ih => rw [World.setCells]; exact ih (h.setCell (p := ⟨b, o, none⟩) hb _) _
/-- a struct or an array loaded out of whatever address -/
theorem loadT {t : TypeId} {d : TypeDesc} (hu : Try.prog.underlying t = some d) (hd : (match d with | .struct _ | .array _ _ => true | _ => false) = true) (cs : List Value) (hi : (Try.prog.info? t).map (·.size) = some cs.length) {ops : Array Oper} {rest : List Oper} {op : Oper} {a : Act} {w : World} {Q : Exit → Act → World → Prop} (hw : Region.wanted op (yielded ops a.tmps) = true) (x : Operand) (ho : op.op = .load t x) (ad : Addr)
    (hx : a.eval x = .pointer (some ad)) (hc : ∀ (j : Nat) (v : Value), cs[j]? = some v → w.cell? (ad.add j) = some v) (h : wpList Try.prog ops Q rest (a.put op.dst (.agg cs.toArray)) w) : wpList Try.prog ops Q (op :: rest) a w :=
  BigFrame.wpList_want hw fun _ hK => by
    have hl : (loadCells ad cs.length).run Try.prog w = .ok cs.toArray w := run_loadCells_list w ad cs hc
    have hv : (loadVar t ad).run Try.prog w = .ok (.agg cs.toArray) w := by
      cases hq : Try.prog.info? t with
      | none => simp [hq] at hi
      | some i =>
        have hs : i.size = cs.length := by simpa [hq] using hi
        have hagg : (isAgg t).run Try.prog w = .ok true w := by
          unfold isAgg
          rw [Sem.run_bind, run_underlying hu w]
          cases d <;> simp_all
        simp [loadVar, Sem.run_bind, hagg, sizeOf, typeInfo, hq, hs, hl]
    unfold Oper.wp execOp
    simp only [ho, hx, Instr.loadAt, Instr.sureAddr, Sem.run_bind, Sem.run_pure, Result.andThen_ok, hv]
    exact hK _ _ h
/-- a claim out of an array of claims -/
theorem idxC (w : World) (A : Array Value) (hA : A.size = 64) (k : Nat) (hk : k < 32) (a b : Value) (h1 : A[k * 2]? = some a) (h2 : A[k * 2 + 1]? = some b) : (Instr.index 86 (.agg A) (.int .i64 (k : Int))).run Try.prog w = .ok (.agg #[a, b]) w := by
  have hk' : (0 : Int) ≤ k ∧ (k : Int) < 32 := by omega
  unfold Instr.index
  have hsz : (sizeOf 85).run Try.prog w = .ok 2 w := by kernel_rfl
  have hag : (isAgg 85).run Try.prog w = .ok true w := by kernel_rfl
  have hx : A.extract (k * 2) (k * 2 + 2) = #[a, b] := by
    apply Array.ext_getElem?
    intro j
    rw [Array.getElem?_extract]
    by_cases h0 : j = 0
    · subst h0; rw [if_pos (by omega)]; simpa using h1
    · by_cases h3 : j = 1
      · subst h3; rw [if_pos (by omega)]; simpa using h2
      · rw [if_neg (by omega)]
        rw [Array.getElem?_eq_none (by simp; omega)]
  simp [Sem.run_bind, asIntOf, run_underlying Try.underlying86, hk', hsz, part, hx]
  intro h; omega
/-- the claimed ones of the first k -/
def cld (C : Nat → Cl) (k : Nat) : List Nat := (List.range k).filter (fun n => decide (0 < (C n).ho))
theorem cld_yes {C : Nat → Cl} {k : Nat} (h : 0 < (C k).ho) : cld C (k + 1) = cld C k ++ [k] := by
  unfold cld; rw [List.range_succ, List.filter_append]; simp [h]
theorem cld_no {C : Nat → Cl} {k : Nat} (h : (C k).ho = 0) : cld C (k + 1) = cld C k := by
  unfold cld; rw [List.range_succ, List.filter_append]; simp [h]
theorem cld_len (C : Nat → Cl) (k : Nat) : (cld C k).length ≤ k := by
  unfold cld; exact Nat.le_trans (List.length_filter_le _ _) (by simp)
/-- what is told of a claim -/
def tell1 (C : Nat → Cl) (n : Nat) : List Value := [.int .i64 (n : Int), .int .i64 (C n).se, .int .i64 ((C n).ho : Int)]
def tells (C : Nat → Cl) (l : List Nat) : List Value := l.flatMap (tell1 C)
theorem tells_snoc (C : Nat → Cl) (l : List Nat) (n : Nat) : tells C (l ++ [n]) = tells C l ++ tell1 C n := by simp [tells]
theorem tells_len (C : Nat → Cl) (l : List Nat) : (tells C l).length = l.length * 3 := by
  induction l with
  | nil => rfl
  | cons x r ih =>
    show (tell1 C x ++ tells C r).length = _
    rw [List.length_append, ih]; simp [tell1]; omega
theorem own_below {w w' : World} {base : Nat} {e : TypeId} {size : Nat} {v : Value} {n : Nat} {xs : List Value} (h : w.ownsRow base e size v n xs) (hb : Below w.heap.size w w') : w'.ownsRow base e size v n xs := by
  obtain ⟨h1, h2 | ⟨g, cap, cur, h2, h3, h4, h5⟩⟩ := h
  · exact ⟨h1, .inl h2⟩
  · exact ⟨h1, .inr ⟨g, cap, cur, h2, h3, (hb.block g (Array.getElem?_eq_some_iff.1 h4).1).trans h4, h5⟩⟩
theorem own_shape {w : World} {base : Nat} {e : TypeId} {size : Nat} {v : Value} {n : Nat} {xs : List Value} (h : w.ownsRow base e size v n xs) : ∃ a c, v = .slice a n c := by
  obtain ⟨h1, ⟨h2, h3⟩ | ⟨g, cap, cur, h2, _⟩⟩ := h
  · exact ⟨none, 0, by rw [h2, h3]⟩
  · exact ⟨_, _, h2⟩
theorem info39 : ∃ i, Try.prog.info? 39 = some i ∧ i.zero = some (.agg #[.int .i64 0, .int .i64 0, .int .i64 0]) ∧ i.size = 3 ∧ i.bytes = 24 := info_parts (by kernel_rfl)
/-- the claims' cells, out of a table -/
theorem Tc.load {cs : Array Value} {dv : Value} {C : Nat → Cl} (h : Tc cs dv C) : ∃ A : List Value, A.length = 64 ∧ (∀ j v, A[j]? = some v → cs[1 + j]? = some v) ∧ ∀ k, k < 32 → A[k * 2]? = some (.int .i64 (C k).se) ∧ A[k * 2 + 1]? = some (.int .i64 ((C k).ho : Int)) := by
  refine ⟨cs.toList.drop 1, by simp [h.size], fun j v hv => ?_, fun k hk => ⟨?_, ?_⟩⟩
  · rw [List.getElem?_drop] at hv; simpa using hv
  · rw [List.getElem?_drop]; simpa using h.ser k hk
  · rw [List.getElem?_drop]; simpa [Nat.add_assoc] using h.hol k hk
theorem cell_three_new (w : World) (t : TypeId) (a b c : Value) : ∀ j v, [a, b, c][j]? = some v → (w.alloc (.cells #[a, b, c] t)).cell? ((⟨w.heap.size, 0, none⟩ : Addr).add j) = some v := by
  intro j v hj
  rw [add0, cell_of_row _ _ _ _ _ _ (heap_alloc_new w _)]
  simpa using hj
section
variable (w : World) (T : Nat) (dv : Value) (C : Nat → Cl)
set_option maxRecDepth 8000 in
set_option maxHeartbeats 3200000 in
theorem list_any (h : Tb w T dv C) : Calls Try.prog 13 #[tp T] w fun e w' => ∃ v, e = .returned v ∧ w'.ownsRow w.heap.size 39 3 v (cld C 32).length (tells C (cld C 32)) ∧ Below w.heap.size w w' := by
  obtain ⟨i3, hi, hz, hs, hb⟩ := info39
  obtain ⟨cs, h1, h2⟩ := h.out
  obtain ⟨A, hA, hAc, hAk⟩ := h2.load
  have HA := hide hA
  have HAk := hide hAk
  have HC : Hid (∀ (j : Nat) (v : Value), A[j]? = some v → w.cell? ((⟨T, 1, none⟩ : Addr).add j) = some v) := hide (fun j v hv => by
    rw [show (⟨T, 1, none⟩ : Addr).add j = ⟨T, 1 + j, none⟩ by unfold Addr.add; split <;> simp_all]
    rw [cell_of_row _ _ _ _ _ _ h1]; exact hAc j v hv)
  clear h h1 h2 hA hAc hAk
  go_enter Try.func13, Try.ntmps13
  go_wp2_with (refine loadT Try.underlying86 rfl A (by rw [HA.out]; kernel_rfl) rfl _ rfl ⟨T, 1, none⟩ rfl HC.out ?_)
  go_loopw [3, 10] (fun u x wr => ∃ k : Nat, k ≤ 32 ∧ x = .int .i64 (k : Int) ∧ Hid (wr.ownsRow w.heap.size 39 3 u (cld C k).length (tells C (cld C k))) ∧ Hid (Below w.heap.size w wr)) (fun _ x _ => 32 - (intOf x).toNat)
  case atStart => exact ⟨0, by omega, rfl, ⟨rfl, .inl ⟨rfl, rfl⟩⟩, Below.refl _ _⟩
  case round =>
  obtain ⟨k, hk, rfl, KO, KB⟩ := hrel
  by_cases h32 : k < 32
  · obtain ⟨a1, a2⟩ := HAk.out k h32
    have hix := fun W => idxC W A.toArray (by simp [HA.out]) k h32 _ _ (by simpa using a1) (by simpa using a2)
    clear a1 a2
    have a1 := heap_alloc_new wr (.cells #[.int .i64 (C k).se, .int .i64 ((C k).ho : Int)] 85)
    have HB4 := hide (KB.out.alloc KB.out.size (.cells #[.int .i64 (C k).se, .int .i64 ((C k).ho : Int)] 85))
    have HO4 := hide (KO.out.alloc (.cells #[.int .i64 (C k).se, .int .i64 ((C k).ho : Int)] 85))
    have hw9 := KB.out.size
    obtain ⟨au, cu, rfl⟩ := own_shape KO.out
    have hL9 := cld_len C k
    clear KO KB
    go_upto_region 5 with (go_simp; simp only [hix])
    generalize wr.alloc (.cells #[.int .i64 (C k).se, .int .i64 ((C k).ho : Int)] 85) = w4 at *
    generalize wr.heap.size = N at *
    have c0 : w4.cell? ⟨N, 0, none⟩ = some (.int .i64 (C k).se) := by rw [cell_of_row _ _ _ _ _ _ a1]; rfl
    have c1 : w4.cell? ⟨N, 1, none⟩ = some (.int .i64 ((C k).ho : Int)) := by rw [cell_of_row _ _ _ _ _ _ a1]; rfl
    clear a1 hix
    have hw4 := HB4.out.size
    by_cases h0 : (C k).ho = 0
    · rw [h0] at c1
      have HO5 : Hid (w4.ownsRow w.heap.size 39 3 (.slice au (cld C k).length cu) (cld C (k + 1)).length (tells C (cld C (k + 1)))) := hide (by rw [cld_no h0]; exact HO4.out)
      go_wp2
      go_roundw
      case rel =>
        first
          | exact ⟨k + 1, by omega, by go_num, HO5, HB4⟩
          | ((repeat apply Exists.intro); refine ⟨?_, rfl⟩; exact ⟨k + 1, by omega, by go_num, HO5, HB4⟩)
      case measure => simp [intOf]; omega
    · have h0' : 0 < (C k).ho := by omega
      have HY := hide (cld_yes h0')
      have hd : decide (0 < (C k).ho) = true := by simp [h0']
      obtain ⟨L, hLn⟩ : ∃ L, (cld C k).length = L := ⟨_, rfl⟩
      rw [hLn] at hL9 HO4
      have HLN := hide hLn
      have HT1 : Hid (tell1 C k = [.int .i64 (k : Int), .int .i64 (C k).se, .int .i64 ((C k).ho : Int)]) := hide rfl
      rw [hLn]
      clear hLn h0
      generalize (C k).se = se at *
      generalize (C k).ho = ho at *
      go_upto_region 7 with (at_builtin; refine wpList_append_own_at _ rfl _ _ 36 rfl w.heap.size 39 i3 (.agg #[.int .i64 0, .int .i64 0, .int .i64 0]) 3 24 Try.underlying36 hi hz hs hb rfl (by decide) (.slice au L cu) L (tells C (cld C k)) rfl (HO4.out.alloc _) ⟨w4.heap.size, 0, none⟩ 1 1 [.int .i64 (k : Int), .int .i64 se, .int .i64 (ho : Int)] rfl rfl (cell_three_new _ _ _ _ _) (by simp [Value.oneCell']) (by unfold maxLen; omega) (by omega) (by simp; omega) ?_; intro v2 w2 ho2 hg2 _ _)
      have HO2 : Hid (w2.ownsRow w.heap.size 39 3 v2 (cld C (k + 1)).length (tells C (cld C (k + 1)))) := by
        refine hide ?_
        have h9 := ho2
        rw [HY.out, tells_snoc, HT1.out, List.length_append, HLN.out]
        exact h9
      have HB2 : Hid (Below w.heap.size w w2) := hide ((HB4.out.alloc hw4 _).grown hg2 (by simp; omega) (fun j hj => (HO4.out.lt j hj).1))
      clear ho2 hg2
      go_wp2
      go_roundw
      case rel =>
        first
          | exact ⟨k + 1, by omega, by go_num, HO2, HB2⟩
          | ((repeat apply Exists.intro); refine ⟨?_, rfl⟩; exact ⟨k + 1, by omega, by go_num, HO2, HB2⟩)
      case measure => simp [intOf]; omega
  · obtain rfl : k = 32 := by omega
    go_wp2
    go_ret
    exact ⟨_, rfl, KO.out, KB.out⟩
end
end Go.Proofs.Ytogpgchfaalikaa
