import Derived.Test.YtogpgchfaalikaaSA
namespace Go.Proofs.Ytogpgchfaalikaa
open Go.RowKit

/-- a table of the program and one of the document, with the same claims -/
structure Pr (w : World) (T : Nat) (dv : Value) (K R : Nat) (C : Nat → Cl) (N : Nat) (F : Nat → Prop) : Prop where
  tb : Tb w T dv C
  tk : TkA K R C N w F
  ne : ¬ F T
def wi (T : Nat) (F : Nat → Prop) : Nat → Prop := fun b => b = T ∨ F b
section
variable {w w' : World} {T K R N M : Nat} {dv : Value} {C C' : Nat → Cl} {F F' : Nat → Prop}
theorem Pr.below (h : Pr w T dv K R C N F) (hb : Below w.heap.size w w') : Pr w' T dv K R C N F := ⟨h.tb.below hb, (good_tk _ _ _ _).below h.tk hb, h.ne⟩
/-- behind the program's call -/
theorem Pr.one (h : Pr w T dv K R C N F) (ha : At w T w') : TkA K R C N w' F := (good_tk _ _ _ _).keep h.tk ha.size (fun b hb => ha.block b ((good_tk _ _ _ _).lt h.tk b hb) (fun e => h.ne (e ▸ hb)))
/-- behind the document's -/
theorem Pr.two (h : Tb w T dv C) (hn : ¬ F T) (hk : TkA K R C M w' F') (he : Ext F w F' w') : Pr w' T dv K R C M F' :=
  ⟨h.keep (he.mod.block T h.lt hn), hk, fun e => (he.new T e).elim hn (fun e => by have := h.lt; omega)⟩
theorem Ext.wide (h : Ext F w F' w') (T : Nat) : Ext (wi T F) w (wi T F') w' := ⟨⟨h.mod.os, h.mod.tape, h.mod.output, h.mod.size, fun b hb hn => h.mod.block b hb (fun e => hn (.inr e))⟩, fun b e => e.elim (fun e => .inl (.inl e)) (fun e => (h.new b e).elim (fun e => .inl (.inr e)) .inr)⟩
theorem At.wide (h : At w T w') (F : Nat → Prop) : Ext (wi T F) w (wi T F) w' := ⟨⟨h.os, h.tape, h.output, h.size, fun b hb hn => h.block b hb (fun e => hn (.inl e))⟩, fun _ e => .inl e⟩
end

section
variable {w : World} {K R N T : Nat} {C : Nat → Cl} {F : Nat → Prop} {dv : Value}
def srr (C : Nat → Cl) (z : Int) : Int := if isCl C z = true then (C z.toNat).se else 0
theorem serial_two (h : Tb w T dv C) (z : Int) : Calls Try.prog 18 #[tp T, .int .i64 z] w fun e w' => e = .returned (.tuple #[.int .i64 (srr C z), .int .i64 (hdr C z)]) ∧ Tb w' T dv C ∧ At w T w' := by
  refine (serial_any _ _ _ _ h z).mono ?_
  rintro e w' ⟨rfl, rfl⟩
  unfold srr hdr
  cases isCl C z <;> exact ⟨rfl, h, At.refl _ _⟩
theorem serialK_two (h : TkA K R C N w F) (hN : N ≤ 2000000) (z : Int) : Calls Try.prog 60 #[tp K, .int .i64 z] w fun e w' => e = .returned (.tuple #[.int .i64 (srr C z), .int .i64 (hdr C z)]) ∧ TkA K R C N w' F ∧ Ext F w F w' := by
  refine (serialK_any h (by omega) z).mono ?_
  rintro e w' ⟨rfl, rfl⟩
  unfold srr hdr
  cases isCl C z <;> exact ⟨rfl, h, Ext.refl _ _⟩
set_option maxRecDepth 100000 in
set_option maxHeartbeats 3200000 in
theorem claims_claim (h : Pr w T dv K R C N F) (hN : N ≤ 2000000) (L : Nat) (hL : Low C L) (n sec se ln : Int) (two : Bool) (b : Nat) (kv : Value) : Calls Try.prog 40 #[tp T, tp K, .agg #[.int .i64 1, .bool two, .int .i64 n, .int .i64 sec, .int .i64 se, .int .u8 (b : Int), .int .i64 ln, kv]] w fun e w' => e = .returned (.bool true) ∧ ∃ F', Pr w' T dv K R (clC C L n se) (N + 1) F' ∧ Ext (wi T F) w (wi T F') w' := by
  have hb0 : Below w.heap.size w (w.alloc (.cells #[.int .i64 1, .bool two, .int .i64 n, .int .i64 sec, .int .i64 se, .int .u8 (b : Int), .int .i64 ln, kv] 73)) := (Below.refl w.heap.size w).alloc (Nat.le_refl _) _
  have hP := h.below hb0
  have HE0 := hide (Ext.of_below (F := wi T F) hb0)
  have hlt := h.tb.lt
  have hB : (w.alloc (.cells #[.int .i64 1, .bool two, .int .i64 n, .int .i64 sec, .int .i64 se, .int .u8 (b : Int), .int .i64 ln, kv] 73)).heap[w.heap.size]? = some (.cells #[.int .i64 1, .bool two, .int .i64 n, .int .i64 sec, .int .i64 se, .int .u8 (b : Int), .int .i64 ln, kv] 73 (0, 0)) := heap_alloc_new w _
  have hBl : w.heap.size < (w.alloc (.cells #[.int .i64 1, .bool two, .int .i64 n, .int .i64 sec, .int .i64 se, .int .u8 (b : Int), .int .i64 ln, kv] 73)).heap.size := (Array.getElem?_eq_some_iff.1 hB).1
  have HP := hide hP
  clear hP hb0 h
  go_enter Try.func40, Try.ntmps40
  go_wp2_with fail
  refine (claim_any _ _ _ _ HP.out.tb L hL n se).mono ?_
  rintro e w1 ⟨rfl, ht1, ha1⟩
  have HTk := hide (HP.out.one ha1)
  have hB1 := (ha1.block _ hBl (by omega)).trans hB
  have d2 : w1.cell? ⟨w.heap.size, 2, none⟩ = some (.int .i64 n) := by rw [cell_of_row _ _ _ _ _ _ hB1]; rfl
  have d4 : w1.cell? ⟨w.heap.size, 4, none⟩ = some (.int .i64 se) := by rw [cell_of_row _ _ _ _ _ _ hB1]; rfl
  have HT1 := hide ht1
  have HE1 := hide (HE0.out.trans (ha1.wide F))
  have HNe := hide HP.out.ne
  clear hB hBl ha1 ht1 hB1 HE0 HP
  go_wp2_with fail
  refine (claimK_any HTk.out hN L hL n se).mono ?_
  rintro e w2 ⟨rfl, F', hk2, he2⟩
  have HF := hide (Pr.two HT1.out HNe.out hk2 he2)
  have HE2 := hide (HE1.out.trans (he2.wide T))
  clear hk2 he2
  go_wp2
  go_ret
  exact ⟨by simp, _, HF.out, HE2.out⟩
set_option maxRecDepth 100000 in
set_option maxHeartbeats 3200000 in
theorem claims_hold (h : Pr w T dv K R C N F) (hN : N ≤ 2000000) (hH : ∀ n, (C n).ho < 9223372036854775807) (n sec se ln : Int) (two : Bool) (b : Nat) (kv : Value) : Calls Try.prog 40 #[tp T, tp K, .agg #[.int .i64 2, .bool two, .int .i64 n, .int .i64 sec, .int .i64 se, .int .u8 (b : Int), .int .i64 ln, kv]] w fun e w' => e = .returned (.bool true) ∧ ∃ F', Pr w' T dv K R (hdC C n) N F' ∧ Ext (wi T F) w (wi T F') w' := by
  have hb0 : Below w.heap.size w (w.alloc (.cells #[.int .i64 2, .bool two, .int .i64 n, .int .i64 sec, .int .i64 se, .int .u8 (b : Int), .int .i64 ln, kv] 73)) := (Below.refl w.heap.size w).alloc (Nat.le_refl _) _
  have hP := h.below hb0
  have HE0 := hide (Ext.of_below (F := wi T F) hb0)
  have hlt := h.tb.lt
  have hB : (w.alloc (.cells #[.int .i64 2, .bool two, .int .i64 n, .int .i64 sec, .int .i64 se, .int .u8 (b : Int), .int .i64 ln, kv] 73)).heap[w.heap.size]? = some (.cells #[.int .i64 2, .bool two, .int .i64 n, .int .i64 sec, .int .i64 se, .int .u8 (b : Int), .int .i64 ln, kv] 73 (0, 0)) := heap_alloc_new w _
  have hBl : w.heap.size < (w.alloc (.cells #[.int .i64 2, .bool two, .int .i64 n, .int .i64 sec, .int .i64 se, .int .u8 (b : Int), .int .i64 ln, kv] 73)).heap.size := (Array.getElem?_eq_some_iff.1 hB).1
  have HP := hide hP
  clear hP hb0 h
  go_enter Try.func40, Try.ntmps40
  go_wp2_with fail
  refine (hold_any HP.out.tb n hH).mono ?_
  rintro e w1 ⟨rfl, ht1, ha1⟩
  have HTk := hide (HP.out.one ha1)
  have hB1 := (ha1.block _ hBl (by omega)).trans hB
  have d2 : w1.cell? ⟨w.heap.size, 2, none⟩ = some (.int .i64 n) := by rw [cell_of_row _ _ _ _ _ _ hB1]; rfl
  have d4 : w1.cell? ⟨w.heap.size, 4, none⟩ = some (.int .i64 se) := by rw [cell_of_row _ _ _ _ _ _ hB1]; rfl
  have HT1 := hide ht1
  have HE1 := hide (HE0.out.trans (ha1.wide F))
  have HNe := hide HP.out.ne
  clear hB hBl ha1 ht1 hB1 HE0 HP
  go_wp2_with fail
  refine (holdK_any HTk.out hN n hH).mono ?_
  rintro e w2 ⟨rfl, hk2, he2⟩
  have HF := hide (Pr.two HT1.out HNe.out hk2 he2)
  have HE2 := hide (HE1.out.trans (he2.wide T))
  clear hk2 he2
  go_wp2
  go_ret
  exact ⟨by simp, _, HF.out, HE2.out⟩
set_option maxRecDepth 100000 in
set_option maxHeartbeats 3200000 in
theorem claims_drop (h : Pr w T dv K R C N F) (hN : N ≤ 2000000) (hH : ∀ n, (C n).ho < 9223372036854775807) (n sec se ln : Int) (two : Bool) (b : Nat) (kv : Value) : Calls Try.prog 40 #[tp T, tp K, .agg #[.int .i64 3, .bool two, .int .i64 n, .int .i64 sec, .int .i64 se, .int .u8 (b : Int), .int .i64 ln, kv]] w fun e w' => e = .returned (.bool true) ∧ ∃ F', Pr w' T dv K R (dpC C n) N F' ∧ Ext (wi T F) w (wi T F') w' := by
  have hb0 : Below w.heap.size w (w.alloc (.cells #[.int .i64 3, .bool two, .int .i64 n, .int .i64 sec, .int .i64 se, .int .u8 (b : Int), .int .i64 ln, kv] 73)) := (Below.refl w.heap.size w).alloc (Nat.le_refl _) _
  have hP := h.below hb0
  have HE0 := hide (Ext.of_below (F := wi T F) hb0)
  have hlt := h.tb.lt
  have hB : (w.alloc (.cells #[.int .i64 3, .bool two, .int .i64 n, .int .i64 sec, .int .i64 se, .int .u8 (b : Int), .int .i64 ln, kv] 73)).heap[w.heap.size]? = some (.cells #[.int .i64 3, .bool two, .int .i64 n, .int .i64 sec, .int .i64 se, .int .u8 (b : Int), .int .i64 ln, kv] 73 (0, 0)) := heap_alloc_new w _
  have hBl : w.heap.size < (w.alloc (.cells #[.int .i64 3, .bool two, .int .i64 n, .int .i64 sec, .int .i64 se, .int .u8 (b : Int), .int .i64 ln, kv] 73)).heap.size := (Array.getElem?_eq_some_iff.1 hB).1
  have HP := hide hP
  clear hP hb0 h
  go_enter Try.func40, Try.ntmps40
  go_wp2_with fail
  refine (drop_any HP.out.tb n hH).mono ?_
  rintro e w1 ⟨rfl, ht1, ha1⟩
  have HTk := hide (HP.out.one ha1)
  have hB1 := (ha1.block _ hBl (by omega)).trans hB
  have d2 : w1.cell? ⟨w.heap.size, 2, none⟩ = some (.int .i64 n) := by rw [cell_of_row _ _ _ _ _ _ hB1]; rfl
  have d4 : w1.cell? ⟨w.heap.size, 4, none⟩ = some (.int .i64 se) := by rw [cell_of_row _ _ _ _ _ _ hB1]; rfl
  have HT1 := hide ht1
  have HE1 := hide (HE0.out.trans (ha1.wide F))
  have HNe := hide HP.out.ne
  clear hB hBl ha1 ht1 hB1 HE0 HP
  go_wp2_with fail
  refine (dropK_any HTk.out hN n hH).mono ?_
  rintro e w2 ⟨rfl, F', hk2, he2⟩
  have HF := hide (Pr.two HT1.out HNe.out hk2 he2)
  have HE2 := hide (HE1.out.trans (he2.wide T))
  clear hk2 he2
  go_wp2
  go_ret
  exact ⟨by simp, _, HF.out, HE2.out⟩
set_option maxRecDepth 100000 in
set_option maxHeartbeats 3200000 in
theorem claims_serial (h : Pr w T dv K R C N F) (hN : N ≤ 2000000) (n sec se ln : Int) (two : Bool) (b : Nat) (kv : Value) : Calls Try.prog 40 #[tp T, tp K, .agg #[.int .i64 4, .bool two, .int .i64 n, .int .i64 sec, .int .i64 se, .int .u8 (b : Int), .int .i64 ln, kv]] w fun e w' => e = .returned (.bool true) ∧ ∃ F', Pr w' T dv K R (C) N F' ∧ Ext (wi T F) w (wi T F') w' := by
  have hb0 : Below w.heap.size w (w.alloc (.cells #[.int .i64 4, .bool two, .int .i64 n, .int .i64 sec, .int .i64 se, .int .u8 (b : Int), .int .i64 ln, kv] 73)) := (Below.refl w.heap.size w).alloc (Nat.le_refl _) _
  have hP := h.below hb0
  have HE0 := hide (Ext.of_below (F := wi T F) hb0)
  have hlt := h.tb.lt
  have hB : (w.alloc (.cells #[.int .i64 4, .bool two, .int .i64 n, .int .i64 sec, .int .i64 se, .int .u8 (b : Int), .int .i64 ln, kv] 73)).heap[w.heap.size]? = some (.cells #[.int .i64 4, .bool two, .int .i64 n, .int .i64 sec, .int .i64 se, .int .u8 (b : Int), .int .i64 ln, kv] 73 (0, 0)) := heap_alloc_new w _
  have hBl : w.heap.size < (w.alloc (.cells #[.int .i64 4, .bool two, .int .i64 n, .int .i64 sec, .int .i64 se, .int .u8 (b : Int), .int .i64 ln, kv] 73)).heap.size := (Array.getElem?_eq_some_iff.1 hB).1
  have HP := hide hP
  clear hP hb0 h
  go_enter Try.func40, Try.ntmps40
  go_wp2_with fail
  refine (serial_two HP.out.tb n).mono ?_
  rintro e w1 ⟨rfl, ht1, ha1⟩
  have HTk := hide (HP.out.one ha1)
  have hB1 := (ha1.block _ hBl (by omega)).trans hB
  have d2 : w1.cell? ⟨w.heap.size, 2, none⟩ = some (.int .i64 n) := by rw [cell_of_row _ _ _ _ _ _ hB1]; rfl
  have d4 : w1.cell? ⟨w.heap.size, 4, none⟩ = some (.int .i64 se) := by rw [cell_of_row _ _ _ _ _ _ hB1]; rfl
  have HT1 := hide ht1
  have HE1 := hide (HE0.out.trans (ha1.wide F))
  have HNe := hide HP.out.ne
  clear hB hBl ha1 ht1 hB1 HE0 HP
  go_wp2_with fail
  refine (serialK_two HTk.out hN n).mono ?_
  rintro e w2 ⟨rfl, hk2, he2⟩
  have HF := hide (Pr.two HT1.out HNe.out hk2 he2)
  have HE2 := hide (HE1.out.trans (he2.wide T))
  clear hk2 he2
  go_wp2
  go_ret
  exact ⟨by simp, _, HF.out, HE2.out⟩
end
end Go.Proofs.Ytogpgchfaalikaa
