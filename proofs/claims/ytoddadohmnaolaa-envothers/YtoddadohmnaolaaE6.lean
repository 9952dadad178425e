import Derived.Test.YtoddadohmnaolaaE5
namespace Go.Proofs.Ytoddadohmnaolaa
open Go.RowKit

theorem takeBits_any (w : World) (b : Nat) (r : Er) (h : Rb w b r) : Calls Try.prog 58 #[.pointer (some ⟨b, 0, none⟩)] w fun e w' => e = .returned (.int .i64 r.bi) ∧ w' = w.setCell ⟨b, 4, none⟩ (.int .i64 0) := by
  have c4 := h.get (j := 4) rfl
  have f4 := h.frz 4
  clear h
  go_enter Try.func58, Try.ntmps58
  go_wp2
  go_ret
  exact ⟨rfl, rfl⟩
/-- only block b is written -/
structure At (w : World) (b : Nat) (w' : World) : Prop where
  os : w'.os = w.os
  tape : w'.tape = w.tape
  output : w'.output = w.output
  size : w.heap.size ≤ w'.heap.size
  block : ∀ c, c < w.heap.size → c ≠ b → w'.heap[c]? = w.heap[c]?
theorem At.refl (w : World) (b : Nat) : At w b w := ⟨rfl, rfl, rfl, Nat.le_refl _, fun _ _ _ => rfl⟩
theorem At.set {w w' : World} {b : Nat} (h : At w b w') (j : Nat) (u : Value) : At w b (w'.setCell ⟨b, j, none⟩ u) :=
  ⟨h.os, h.tape, h.output, by simpa [World.setCell] using h.size, fun c hc hne => by rw [heap_setCell_other _ _ _ _ hne]; exact h.block c hc hne⟩
theorem At.below {w w1 w2 : World} {b : Nat} (h : At w b w1) (hb : Below w1.heap.size w1 w2) : At w b w2 :=
  ⟨hb.os.trans h.os, hb.tape.trans h.tape, hb.output.trans h.output, Nat.le_trans h.size hb.size, fun c hc hne => (hb.block c (Nat.lt_of_lt_of_le hc h.size)).trans (h.block c hc hne)⟩
theorem At.of_below {w w1 : World} {b : Nat} (hb : Below w.heap.size w w1) : At w b w1 := (At.refl w b).below hb
theorem At.mod {w w' : World} {b : Nat} (h : At w b w') {F : Nat → Prop} (hf : F b) : Mod F w w' :=
  ⟨h.os, h.tape, h.output, h.size, fun c hc hn => h.block c hc (fun e => hn (by rw [e]; exact hf))⟩
def waited (r : Er) : Er := if r.bi = 0 then { r with st := 2, bi := 0 } else { r with bi := 0 }
set_option maxHeartbeats 800000 in
theorem wait_any (w : World) (b : Nat) (r : Er) (h : Rb w b r) : Calls Try.prog 34 #[.pointer (some ⟨b, 0, none⟩)] w fun e w' => e = .returned (.int .i64 r.bi) ∧ Rb w' b (waited r) ∧ At w b w' := by
  have HR := hide h
  have c4 := h.get (j := 4) rfl
  have c2 := h.get (j := 2) rfl
  have f2 := h.frz 2
  clear h
  by_cases hz : r.bi = 0
  · have hR2 : Rb (w.setCell ⟨b, 2, none⟩ (.int .i64 2)) b { r with st := 2 } := HR.out.set rfl
    have HT := hide (takeBits_any _ b _ hR2)
    have HR2 := hide hR2
    rw [hz] at c4 ⊢
    have HW : Hid (waited r = { r with st := 2, bi := 0 }) := hide (by unfold waited; rw [if_pos hz])
    have HZ := hide hz
    clear hR2 hz
    go_enter Try.func34, Try.ntmps34
    go_wp2_with fail
    refine HT.out.mono ?_
    rintro e w1 ⟨rfl, rfl⟩
    simp only [HZ.out]
    go_wp2
    go_ret
    refine ⟨rfl, ?_, ((At.refl w b).set 2 _).set 4 _⟩
    rw [HW.out]
    exact HR2.out.set rfl
  · have HT := hide (takeBits_any _ b _ HR.out)
    have HW : Hid (waited r = { r with bi := 0 }) := hide (by unfold waited; rw [if_neg hz])
    have hzb : (r.bi == 0) = false := by simp [hz]
    go_enter Try.func34, Try.ntmps34
    go_wp2_with fail
    refine HT.out.mono ?_
    rintro e w1 ⟨rfl, rfl⟩
    go_wp2
    go_ret
    refine ⟨rfl, ?_, (At.refl w b).set 4 _⟩
    rw [HW.out]
    exact HR.out.set rfl
section
variable (w : World) (F : Nat → Prop) (T : Nat) (rs : List (Option Er)) (last : Int)
/-- what a call on one record leaves -/
theorem Et.upd {w w' : World} {F : Nat → Prop} {T S : Nat} {G : Nat → Prop} {m : List (Option Nat)} {rs : List (Option Er)} {last : Int} (h : EtAt w F T S G m rs last) {i b : Nat} (hi : m[i]? = some (some b)) {r' : Er} (hr : Rb w' b r') (ha : At w b w') : Et w' F T (rs.set i (some r')) last ∧ Mod F w w' :=
  ⟨⟨S, G, m, h.upd hi ha.size ha.block hr⟩, ha.mod (h.own i b hi).1⟩
set_option maxHeartbeats 800000 in
theorem waitNone_any (h : Et w F T rs last) (e : Int) (hn : look rs e = none) : Calls Try.prog 12 #[.pointer (some ⟨T, 0, none⟩), .int .i64 e] w fun x w' => x = .returned (.tuple #[.int .i64 0, .int .i64 90]) ∧ w' = w := by
  obtain ⟨S, G, m, h⟩ := h
  have c0 := h.cell.1
  have HG := hide (getL_any _ G S m h.tab e)
  rcases h.cases e with ⟨h1, _⟩ | ⟨k, b, r, rfl, _, _, _, h4, _⟩
  · rw [h1] at HG
    simp only [ptr, Option.isSome_none] at HG
    clear h h1 hn
    go_enter Try.func12, Try.ntmps12
    go_wp2_with fail
    refine HG.out.mono ?_
    rintro e1 w1 ⟨rfl, rfl⟩
    go_wp2
    go_ret2
    exact ⟨rfl, rfl⟩
  · rw [h4] at hn; cases hn
set_option maxHeartbeats 800000 in
theorem waitSome_any (h : Et w F T rs last) (k : Nat) (r : Er) (hr : rs[k]? = some (some r)) : Calls Try.prog 12 #[.pointer (some ⟨T, 0, none⟩), .int .i64 (k : Int)] w fun x w' => x = .returned (.tuple #[.int .i64 r.bi, .int .i64 0]) ∧ Et w' F T (rs.set k (some (waited r))) last ∧ Mod F w w' := by
  obtain ⟨S, G, m, h⟩ := h
  have c0 := h.cell.1
  have HG := hide (getL_any _ G S m h.tab (k : Int))
  rcases h.cases (k : Int) with ⟨_, h1⟩ | ⟨k', b, r', e1, hm, h3, h4, _, hR⟩
  · rw [look_nat, hr] at h1; cases h1
  · obtain rfl : k = k' := by omega
    rw [hr] at h3; cases h3
    rw [h4] at HG
    simp only [ptr, Option.isSome_some] at HG
    have HW := hide (wait_any w b r hR)
    have HH := hide h
    clear h h4 hR
    go_enter Try.func12, Try.ntmps12
    go_wp2_with fail
    refine HG.out.mono ?_
    rintro e1 w1 ⟨rfl, rfl⟩
    go_wp2_with fail
    refine HW.out.mono ?_
    rintro e1 w2 ⟨rfl, q1, q2⟩
    have HF := hide (Et.upd HH.out hm q1 q2)
    clear q1 q2
    go_wp2
    go_ret2
    exact ⟨rfl, HF.out⟩
set_option maxHeartbeats 800000 in
theorem setState_any (h : Et w F T rs last) (k : Nat) (r : Er) (hr : rs[k]? = some (some r)) (st co : Int) (hs : 0 ≤ st ∧ st ≤ 4) (hc : 0 ≤ co ∧ co ≤ 4294967295) : Calls Try.prog 10 #[.pointer (some ⟨T, 0, none⟩), .int .i64 (k : Int), .int .i64 st, .int .i64 co] w fun x w' => x = .returned (.int .i64 0) ∧ Et w' F T (rs.set k (some { r with st := st, co := co })) last ∧ Mod F w w' := by
  obtain ⟨S, G, m, h⟩ := h
  have c0 := h.cell.1
  have HG := hide (getL_any _ G S m h.tab (k : Int))
  rcases h.cases (k : Int) with ⟨_, h1⟩ | ⟨k', b, r', e1, hm, h3, h4, _, hR⟩
  · rw [look_nat, hr] at h1; cases h1
  · obtain rfl : k = k' := by omega
    rw [hr] at h3; cases h3
    rw [h4] at HG
    simp only [ptr, Option.isSome_some] at HG
    have HI := hide (isWord_any w co)
    rw [show decide (0 ≤ co ∧ co ≤ 4294967295) = true by simp [hc]] at HI
    have c2 := hR.get (j := 2) rfl
    have c3 := hR.get (j := 3) rfl
    have f2 := hR.frz 2
    have f3 := hR.frz 3
    have hs1 : ¬ st < 0 := by omega
    have hs2 : ¬ 4 < st := by omega
    have HF : Hid (Et ((w.setCell ⟨b, 2, none⟩ (.int .i64 st)).setCell ⟨b, 3, none⟩ (.int .i64 co)) F T (rs.set k (some { r with st := st, co := co })) last ∧ Mod F w ((w.setCell ⟨b, 2, none⟩ (.int .i64 st)).setCell ⟨b, 3, none⟩ (.int .i64 co))) :=
      hide (Et.upd h hm (Rb.set (e := { r with st := st }) (hR.set rfl) rfl) (((At.refl w b).set 2 _).set 3 _))
    clear h h4 hR hs hc
    go_enter Try.func10, Try.ntmps10
    go_wp2_with fail
    refine HG.out.mono ?_
    rintro e1 w1 ⟨rfl, rfl⟩
    go_wp2_with fail
    refine HI.out.mono ?_
    rintro e1 w1 ⟨rfl, rfl⟩
    go_wp2
    go_ret
    exact ⟨rfl, HF.out⟩
end
end Go.Proofs.Ytoddadohmnaolaa
