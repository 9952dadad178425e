import Derived.Deep.MidRow
import Derived.ProofKit
import Derived.Deep.Slices
import Derived.Maps.AppendAt
import Derived.OwnWalk
import Derived.Test.YtbocpmcodlceoaaGreatMB
namespace Go.Proofs.YtbocpmcodlceoaaGreat
open Go.RowKit

theorem takeBits_any (w : World) (b : Nat) (r : Er) (h : Rb w b r) : Calls Tryz.prog 88 #[.pointer (some ⟨b, 0, none⟩)] w fun e w' => e = .returned (.int .i64 r.bi) ∧ w' = w.setCell ⟨b, 4, none⟩ (.int .i64 0) := by
  have c4 := h.get (j := 4) rfl
  have f4 := h.frz 4
  clear h
  go_enter Tryz.func88, Tryz.ntmps88
  go_wp2
  go_ret
  exact ⟨rfl, rfl⟩
/-- only block b is written -/
structure At (w : World) (b : Nat) (w' : World) : Prop where
  os : w'.os = w.os
  tape : w'.tape = w.tape
  output : w'.output = w.output
  size : w.heap.size ≤ w'.heap.size
  block : ∀ c, c < w.heap.size → c ≠ b → w'.heap[c]? = w.heap[c]?
theorem At.refl (w : World) (b : Nat) : At w b w := ⟨rfl, rfl, rfl, Nat.le_refl _, fun _ _ _ => rfl⟩
theorem At.set {w w' : World} {b : Nat} (h : At w b w') (j : Nat) (u : Value) : At w b (w'.setCell ⟨b, j, none⟩ u) :=
  ⟨h.os, h.tape, h.output, by simpa [World.setCell] using h.size, fun c hc hne => by rw [heap_setCell_other _ _ _ _ hne]; exact h.block c hc hne⟩
theorem At.below {w w1 w2 : World} {b : Nat} (h : At w b w1) (hb : Below w1.heap.size w1 w2) : At w b w2 :=
  ⟨hb.os.trans h.os, hb.tape.trans h.tape, hb.output.trans h.output, Nat.le_trans h.size hb.size, fun c hc hne => (hb.block c (Nat.lt_of_lt_of_le hc h.size)).trans (h.block c hc hne)⟩
theorem At.of_below {w w1 : World} {b : Nat} (hb : Below w.heap.size w w1) : At w b w1 := (At.refl w b).below hb
theorem At.mod {w w' : World} {b : Nat} (h : At w b w') {F : Nat → Prop} (hf : F b) : Mod F w w' :=
  ⟨h.os, h.tape, h.output, h.size, fun c hc hn => h.block c hc (fun e => hn (by rw [e]; exact hf))⟩
def waited (r : Er) : Er := if r.bi = 0 then { r with st := 2, bi := 0 } else { r with bi := 0 }
set_option maxHeartbeats 800000 in
theorem wait_any (w : World) (b : Nat) (r : Er) (h : Rb w b r) : Calls Tryz.prog 74 #[.pointer (some ⟨b, 0, none⟩)] w fun e w' => e = .returned (.int .i64 r.bi) ∧ Rb w' b (waited r) ∧ At w b w' := by
  have HR := hide h
  have c4 := h.get (j := 4) rfl
  have c2 := h.get (j := 2) rfl
  have f2 := h.frz 2
  clear h
  by_cases hz : r.bi = 0
  · have hR2 : Rb (w.setCell ⟨b, 2, none⟩ (.int .i64 2)) b { r with st := 2 } := HR.out.set rfl
    have HT := hide (takeBits_any _ b _ hR2)
    have HR2 := hide hR2
    rw [hz] at c4 ⊢
    have HW : Hid (waited r = { r with st := 2, bi := 0 }) := hide (by unfold waited; rw [if_pos hz])
    have HZ := hide hz
    clear hR2 hz
    go_enter Tryz.func74, Tryz.ntmps74
    go_wp2_with fail
    refine HT.out.mono ?_
    rintro e w1 ⟨rfl, rfl⟩
    simp only [HZ.out]
    go_wp2
    go_ret
    refine ⟨rfl, ?_, ((At.refl w b).set 2 _).set 4 _⟩
    rw [HW.out]
    exact HR2.out.set rfl
  · have HT := hide (takeBits_any _ b _ HR.out)
    have HW : Hid (waited r = { r with bi := 0 }) := hide (by unfold waited; rw [if_neg hz])
    have hzb : (r.bi == 0) = false := by simp [hz]
    go_enter Tryz.func74, Tryz.ntmps74
    go_wp2_with fail
    refine HT.out.mono ?_
    rintro e w1 ⟨rfl, rfl⟩
    go_wp2
    go_ret
    refine ⟨rfl, ?_, (At.refl w b).set 4 _⟩
    rw [HW.out]
    exact HR.out.set rfl
section
variable (w : World) (F : Nat → Prop) (T : Nat) (rs : List (Option Er)) (last : Int)
/-- what a call on one record leaves -/
theorem Et.upd {w w' : World} {F : Nat → Prop} {T S : Nat} {G : Nat → Prop} {m : List (Option Nat)} {rs : List (Option Er)} {last : Int} (h : EtAt w F T S G m rs last) {i b : Nat} (hi : m[i]? = some (some b)) {r' : Er} (hr : Rb w' b r') (ha : At w b w') : Et w' F T (rs.set i (some r')) last ∧ Mod F w w' :=
  ⟨⟨S, G, m, h.upd hi ha.size ha.block hr⟩, ha.mod (h.own i b hi).1⟩
set_option maxHeartbeats 800000 in
theorem waitNone_any (h : Et w F T rs last) (e : Int) (hn : look rs e = none) : Calls Tryz.prog 31 #[.pointer (some ⟨T, 0, none⟩), .int .i64 e] w fun x w' => x = .returned (.tuple #[.int .i64 0, .int .i64 90]) ∧ w' = w := by
  obtain ⟨S, G, m, h⟩ := h
  have c0 := h.cell.1
  have HG := hide (getL_any _ G S m h.tab e)
  rcases h.cases e with ⟨h1, _⟩ | ⟨k, b, r, rfl, _, _, _, h4, _⟩
  · rw [h1] at HG
    simp only [ptr, Option.isSome_none] at HG
    clear h h1 hn
    go_enter Tryz.func31, Tryz.ntmps31
    go_wp2_with fail
    refine HG.out.mono ?_
    rintro e1 w1 ⟨rfl, rfl⟩
    go_wp2
    go_ret2
    exact ⟨rfl, rfl⟩
  · rw [h4] at hn; cases hn
set_option maxHeartbeats 800000 in
theorem waitSome_any (h : Et w F T rs last) (k : Nat) (r : Er) (hr : rs[k]? = some (some r)) : Calls Tryz.prog 31 #[.pointer (some ⟨T, 0, none⟩), .int .i64 (k : Int)] w fun x w' => x = .returned (.tuple #[.int .i64 r.bi, .int .i64 0]) ∧ Et w' F T (rs.set k (some (waited r))) last ∧ Mod F w w' := by
  obtain ⟨S, G, m, h⟩ := h
  have c0 := h.cell.1
  have HG := hide (getL_any _ G S m h.tab (k : Int))
  rcases h.cases (k : Int) with ⟨_, h1⟩ | ⟨k', b, r', e1, hm, h3, h4, _, hR⟩
  · rw [look_nat, hr] at h1; cases h1
  · obtain rfl : k = k' := by omega
    rw [hr] at h3; cases h3
    rw [h4] at HG
    simp only [ptr, Option.isSome_some] at HG
    have HW := hide (wait_any w b r hR)
    have HH := hide h
    clear h h4 hR
    go_enter Tryz.func31, Tryz.ntmps31
    go_wp2_with fail
    refine HG.out.mono ?_
    rintro e1 w1 ⟨rfl, rfl⟩
    go_wp2_with fail
    refine HW.out.mono ?_
    rintro e1 w2 ⟨rfl, q1, q2⟩
    have HF := hide (Et.upd HH.out hm q1 q2)
    clear q1 q2
    go_wp2
    go_ret2
    exact ⟨rfl, HF.out⟩
set_option maxHeartbeats 800000 in
theorem setState_any (h : Et w F T rs last) (k : Nat) (r : Er) (hr : rs[k]? = some (some r)) (st co : Int) (hs : 0 ≤ st ∧ st ≤ 4) (hc : 0 ≤ co ∧ co ≤ 4294967295) : Calls Tryz.prog 25 #[.pointer (some ⟨T, 0, none⟩), .int .i64 (k : Int), .int .i64 st, .int .i64 co] w fun x w' => x = .returned (.int .i64 0) ∧ Et w' F T (rs.set k (some { r with st := st, co := co })) last ∧ Mod F w w' := by
  obtain ⟨S, G, m, h⟩ := h
  have c0 := h.cell.1
  have HG := hide (getL_any _ G S m h.tab (k : Int))
  rcases h.cases (k : Int) with ⟨_, h1⟩ | ⟨k', b, r', e1, hm, h3, h4, _, hR⟩
  · rw [look_nat, hr] at h1; cases h1
  · obtain rfl : k = k' := by omega
    rw [hr] at h3; cases h3
    rw [h4] at HG
    simp only [ptr, Option.isSome_some] at HG
    have HI := hide (isWord_any w co)
    rw [show decide (0 ≤ co ∧ co ≤ 4294967295) = true by simp [hc]] at HI
    have c2 := hR.get (j := 2) rfl
    have c3 := hR.get (j := 3) rfl
    have f2 := hR.frz 2
    have f3 := hR.frz 3
    have hs1 : ¬ st < 0 := by omega
    have hs2 : ¬ 4 < st := by omega
    have HF : Hid (Et ((w.setCell ⟨b, 2, none⟩ (.int .i64 st)).setCell ⟨b, 3, none⟩ (.int .i64 co)) F T (rs.set k (some { r with st := st, co := co })) last ∧ Mod F w ((w.setCell ⟨b, 2, none⟩ (.int .i64 st)).setCell ⟨b, 3, none⟩ (.int .i64 co))) :=
      hide (Et.upd h hm (Rb.set (e := { r with st := st }) (hR.set rfl) rfl) (((At.refl w b).set 2 _).set 3 _))
    clear h h4 hR hs hc
    go_enter Tryz.func25, Tryz.ntmps25
    go_wp2_with fail
    refine HG.out.mono ?_
    rintro e1 w1 ⟨rfl, rfl⟩
    go_wp2_with fail
    refine HI.out.mono ?_
    rintro e1 w1 ⟨rfl, rfl⟩
    go_wp2
    go_ret
    exact ⟨rfl, HF.out⟩
end
end Go.Proofs.YtbocpmcodlceoaaGreat

namespace Go.Proofs.YtbocpmcodlceoaaGreat
open Go.RowKit

section
variable {P : Program} {ops : Array Oper} {Q : Exit → Act → World → Prop} {S : World → Prop} {fuel : Nat} {listed : Array Bool} {a : Act} {w : World}
/-- the one operation that may come up -/
theorem hd_call (i : Nat) {o : Oper} (hr : Region.ready .any ops listed = [i]) (ho : ops[i]? = some o) (hw : Region.wanted o (yielded ops a.tmps) = true)
    (h : ∀ K : Act → World → Prop, (∀ a w, S w → wpAnyH P .any ops Q S fuel (listed.setIfInBounds i true) a w → K a w) → Oper.wp P o a w K Q) : wpAnyH P .any ops Q S (fuel + 1) listed a w := by
  refine wpAnyH_ready hr (by simp) (AllReadyH.cons ho (fun K hK => ?_) AllReadyH.nil)
  rw [if_pos hw]
  exact h K (fun a w hS hh => hK.out a w hS (fun _ => hh))
/-- what yields in whatever world that meets S -/
theorem hd_take (i : Nat) {o : Oper} (v : Value) (hs : Region.noSelect ops = true) (hf : Region.free .any ops listed i = true) (hr : (Region.ready .any ops listed).contains i = true) (ho : ops[i]? = some o) (hw : Region.wanted o (yielded ops a.tmps) = true)
    (hy : ∀ w, S w → (execOp a.eval o).run P w = .ok (.value v) w)
    (hQ : ∀ c a w, Q (.panic c) (a.put o.dst v) w → Q (.panic c) a w) (h0 : S w) (h : wpAnyH P .any ops Q S fuel (listed.setIfInBounds i true) (a.put o.dst v) w) : wpAnyH P .any ops Q S (fuel + 1) listed a w :=
  wpAnyH_take ho hs hf hr hQ (Or.inl ⟨hw, hy⟩) h0 h
end
/-- registers 0 and 1 of a record that is woken -/
def wokenR (r : Er) (z : Nat) : Nat → Nat := fun i => if i = 0 then 0 else if i = 1 then z else r.rg i
def noticed (r : Er) (n : Int) : Er :=
  if r.st = 2 ∧ ¬ bits .or .i64 r.bi n = 0 then { r with st := 1, bi := 0, rg := wokenR r (bits .or .i64 r.bi n).toNat } else { r with bi := bits .or .i64 r.bi n }
set_option maxHeartbeats 3200000 in
theorem notice_any (w : World) (b : Nat) (r : Er) (h : Rb w b r) (n : Int) (hz : 0 ≤ bits .or .i64 r.bi n ∧ bits .or .i64 r.bi n ≤ 4294967295) : Calls Tryz.prog 73 #[.pointer (some ⟨b, 0, none⟩), .int .i64 n] w fun e w' => e = .returned (.tuple #[]) ∧ Rb w' b (noticed r n) ∧ At w b w' := by
  have HR := hide h
  obtain ⟨z, hzz⟩ : ∃ z, bits .or .i64 r.bi n = z := ⟨_, rfl⟩
  have hR1 : Rb (w.setCell ⟨b, 4, none⟩ (.int .i64 z)) b { r with bi := z } := HR.out.set rfl
  have HR1 := hide hR1
  have c4 := h.get (j := 4) rfl
  have f4 := h.frz 4
  have HA1 := hide ((At.refl w b).set 4 (.int .i64 z))
  clear h
  rw [hzz] at hz
  by_cases hs : r.st = 2
  · by_cases h0 : z = 0
    · have HN : Hid (noticed r n = { r with bi := z }) := hide (by unfold noticed; rw [if_neg (by rw [hzz]; exact fun h => h.2 h0), hzz])
      have q2 := hR1.get (j := 2) rfl
      have q4 := hR1.get (j := 4) rfl
      simp only [hs] at q2
      have H0 := hide h0
      clear hR1 h0
      go_enter Tryz.func73, Tryz.ntmps73
      go_upto_region 1 with fail
      generalize w.setCell ⟨b, 4, none⟩ (.int .i64 z) = w1 at *
      rw [H0.out] at q4
      go_wp2
      refine bodyPost_ret (results_none rfl _ _ _) rfl ?_
      exact ⟨rfl, by rw [HN.out]; exact HR1.out, HA1.out⟩
    · have HN' : Hid (noticed r n = { r with st := 1, bi := 0, rg := wokenR r z.toNat }) := hide (by unfold noticed; rw [if_pos (by rw [hzz]; exact ⟨hs, h0⟩), hzz])
      obtain ⟨zn, rfl⟩ := Int.eq_ofNat_of_zero_le hz.1
      have HN : Hid (noticed r n = { r with st := 1, bi := 0, rg := wokenR r zn }) := hide HN'.out
      clear HN'
      have q2 := hR1.get (j := 2) rfl
      have q4 := hR1.get (j := 4) rfl
      have f2 := hR1.frz 2
      simp only [hs] at q2
      have h0b : ((zn : Int) == 0) = false := by
        have hzn : zn ≠ 0 := fun e => h0 (by rw [e]; rfl)
        simp [hzn]
      have hR2 : Rb ((w.setCell ⟨b, 4, none⟩ (.int .i64 (zn : Int))).setCell ⟨b, 2, none⟩ (.int .i64 1)) b { r with bi := (zn : Int), st := 1 } := hR1.set rfl
      have HA2 := hide (HA1.out.set 2 (.int .i64 1))
      have HR2 := hide hR2
      clear hR1
      go_enter Tryz.func73, Tryz.ntmps73
      go_upto_region 1 with fail
      go_upto_region 3 with fail
      generalize (w.setCell ⟨b, 4, none⟩ (.int .i64 (zn : Int))).setCell ⟨b, 2, none⟩ (.int .i64 1) = w2 at *
      clear q2 q4 f2 hzz HR1 HA1 c4 f4
      obtain ⟨w3, hw3⟩ : ∃ w3, w3 = w2.drew := ⟨_, rfl⟩
      have hR3 : Rb w3 b { r with bi := (zn : Int), st := 1 } := by rw [hw3]; exact ⟨HR2.out.out⟩
      have HT := hide (takeBits_any w3 b _ hR3)
      have hR4 : Rb (w3.setCell ⟨b, 4, none⟩ (.int .i64 0)) b { r with bi := 0, st := 1 } := hR3.set rfl
      have d6 := hR4.get (j := 6) rfl
      have g6 := hR4.frz 6
      have hR5 : Rb ((w3.setCell ⟨b, 4, none⟩ (.int .i64 0)).setCell ⟨b, 6, none⟩ (.int .u32 0)) b { r with bi := 0, st := 1, rg := fun i => if i = 0 then 0 else r.rg i } := hR4.set rfl
      have d7 := hR5.get (j := 7) rfl
      have g7 := hR5.frz 7
      have hR6 : Rb (((w3.setCell ⟨b, 4, none⟩ (.int .i64 0)).setCell ⟨b, 6, none⟩ (.int .u32 0)).setCell ⟨b, 7, none⟩ (.int .u32 (zn : Int))) b { r with bi := 0, st := 1, rg := wokenR r zn } := hR5.set rfl
      have HA3 : Hid (At w b w3) := by rw [hw3]; exact ⟨HA2.out.os, HA2.out.tape, HA2.out.output, HA2.out.size, HA2.out.block⟩
      have HA6 := hide (((HA3.out.set 4 (.int .i64 0)).set 6 (.int .u32 0)).set 7 (.int .u32 (zn : Int)))
      have HR6 := hide hR6
      have HWz : Hid (IntKind.u32.wrap (zn : Int) = (zn : Int)) := hide (by simp [IntKind.wrap, IntKind.signed, IntKind.bits]; omega)
      simp only at d6 d7
      clear hR3 hR4 hR5 hR6 HR2 HA2 HA3
      refine wp_region_held_drew (S := fun _ => True) (by kernel_rfl) trivial (fun _ => ?_)
      rw [← hw3]
      clear hw3
      refine hd_take 0 (o := ⟨some 32, _, _, _, _, _⟩) (.pointer (some ⟨b, 0, none⟩)) (by kernel_rfl) (by kernel_rfl) (by kernel_rfl) rfl (by rfl) (fun W hSw => by go_simp) (fun _ _ _ h => h) trivial ?_
      simp only [Act.put, List.setIfInBounds_toArray, List.set_cons_zero, List.set_cons_succ]
      refine hd_take 1 (o := ⟨some 33, _, _, _, _, _⟩) (.pointer (some ⟨b, 0, none⟩)) (by kernel_rfl) (by kernel_rfl) (by kernel_rfl) rfl (by rfl) (fun W hSw => by go_simp) (fun _ _ _ h => h) trivial ?_
      simp only [Act.put, List.setIfInBounds_toArray, List.set_cons_zero, List.set_cons_succ]
      refine hd_take 2 (o := ⟨some 34, _, _, _, _, _⟩) (.pointer (some ⟨b, 0, none⟩)) (by kernel_rfl) (by kernel_rfl) (by kernel_rfl) rfl (by rfl) (fun W hSw => by go_simp) (fun _ _ _ h => h) trivial ?_
      simp only [Act.put, List.setIfInBounds_toArray, List.set_cons_zero, List.set_cons_succ]
      refine hd_take 5 (o := ⟨some 37, _, _, _, _, _⟩) (.pointer (some ⟨b, 0, none⟩)) (by kernel_rfl) (by kernel_rfl) (by kernel_rfl) rfl (by rfl) (fun W hSw => by go_simp) (fun _ _ _ h => h) trivial ?_
      simp only [Act.put, List.setIfInBounds_toArray, List.set_cons_zero, List.set_cons_succ]
      refine hd_take 6 (o := ⟨some 38, _, _, _, _, _⟩) (.pointer (some ⟨b, 0, none⟩)) (by kernel_rfl) (by kernel_rfl) (by kernel_rfl) rfl (by rfl) (fun W hSw => by go_simp) (fun _ _ _ h => h) trivial ?_
      simp only [Act.put, List.setIfInBounds_toArray, List.set_cons_zero, List.set_cons_succ]
      refine hd_take 7 (o := ⟨some 39, _, _, _, _, _⟩) (.pointer (some ⟨b, 6, none⟩)) (by kernel_rfl) (by kernel_rfl) (by kernel_rfl) rfl (by rfl) (fun W hSw => by go_simp) (fun _ _ _ h => h) trivial ?_
      simp only [Act.put, List.setIfInBounds_toArray, List.set_cons_zero, List.set_cons_succ]
      refine hd_take 8 (o := ⟨some 40, _, _, _, _, _⟩) (.pointer (some ⟨b, 6, none⟩)) (by kernel_rfl) (by kernel_rfl) (by kernel_rfl) rfl (by rfl) (fun W hSw => by go_simp) (fun _ _ _ h => h) trivial ?_
      simp only [Act.put, List.setIfInBounds_toArray, List.set_cons_zero, List.set_cons_succ]
      refine hd_take 11 (o := ⟨some 42, _, _, _, _, _⟩) (.pointer (some ⟨b, 0, none⟩)) (by kernel_rfl) (by kernel_rfl) (by kernel_rfl) rfl (by rfl) (fun W hSw => by go_simp) (fun _ _ _ h => h) trivial ?_
      simp only [Act.put, List.setIfInBounds_toArray, List.set_cons_zero, List.set_cons_succ]
      refine hd_take 12 (o := ⟨some 43, _, _, _, _, _⟩) (.pointer (some ⟨b, 0, none⟩)) (by kernel_rfl) (by kernel_rfl) (by kernel_rfl) rfl (by rfl) (fun W hSw => by go_simp) (fun _ _ _ h => h) trivial ?_
      simp only [Act.put, List.setIfInBounds_toArray, List.set_cons_zero, List.set_cons_succ]
      refine hd_take 13 (o := ⟨some 44, _, _, _, _, _⟩) (.pointer (some ⟨b, 6, none⟩)) (by kernel_rfl) (by kernel_rfl) (by kernel_rfl) rfl (by rfl) (fun W hSw => by go_simp) (fun _ _ _ h => h) trivial ?_
      simp only [Act.put, List.setIfInBounds_toArray, List.set_cons_zero, List.set_cons_succ]
      refine hd_take 14 (o := ⟨some 45, _, _, _, _, _⟩) (.pointer (some ⟨b, 6, none⟩)) (by kernel_rfl) (by kernel_rfl) (by kernel_rfl) rfl (by rfl) (fun W hSw => by go_simp) (fun _ _ _ h => h) trivial ?_
      simp only [Act.put, List.setIfInBounds_toArray, List.set_cons_zero, List.set_cons_succ]
      refine hd_call 3 (o := ⟨some 35, _, _, _, _, _⟩) (by kernel_rfl) rfl (by rfl) (fun K hK => ?_)
      go_simp
      go_wp2_with (go_at_call 88; refine HT.out.mono ?_; rintro e1 w9 ⟨rfl, rfl⟩)
      refine hK _ _ trivial ?_
      clear hK K
      try simp only [Act.put, List.setIfInBounds_toArray, List.set_cons_zero, List.set_cons_succ]
      refine hd_take 4 (o := ⟨some 36, _, _, _, _, _⟩) (.int .u32 (zn : Int)) (by kernel_rfl) (by kernel_rfl) (by kernel_rfl) rfl (by rfl) (fun W hSw => by go_simp; exact HWz.out) (fun _ _ _ h => h) trivial ?_
      simp only [Act.put, List.setIfInBounds_toArray, List.set_cons_zero, List.set_cons_succ]
      refine hd_take 9 (o := ⟨some 41, _, _, _, _, _⟩) (.pointer (some ⟨b, 6, none⟩)) (by kernel_rfl) (by kernel_rfl) (by kernel_rfl) rfl (by rfl) (fun W hSw => by go_simp) (fun _ _ _ h => h) trivial ?_
      simp only [Act.put, List.setIfInBounds_toArray, List.set_cons_zero, List.set_cons_succ]
      refine hd_call 10 (o := ⟨none, _, _, _, _, _⟩) (by kernel_rfl) rfl (by rfl) (fun K hK => ?_)
      go_simp
      refine hK _ _ trivial ?_
      clear hK K
      try simp only [Act.put, List.setIfInBounds_toArray, List.set_cons_zero, List.set_cons_succ]
      refine hd_take 15 (o := ⟨some 46, _, _, _, _, _⟩) (.pointer (some ⟨b, 7, none⟩)) (by kernel_rfl) (by kernel_rfl) (by kernel_rfl) rfl (by rfl) (fun W hSw => by go_simp) (fun _ _ _ h => h) trivial ?_
      simp only [Act.put, List.setIfInBounds_toArray, List.set_cons_zero, List.set_cons_succ]
      refine hd_call 16 (o := ⟨none, _, _, _, _, _⟩) (by kernel_rfl) rfl (by rfl) (fun K hK => ?_)
      go_simp
      refine hK _ _ trivial ?_
      clear hK K
      refine wpAnyH_done (by kernel_rfl) ?_ _
      go_wp2
      go_end0
      exact ⟨rfl, by rw [HN.out]; exact HR6.out, HA6.out⟩
  · have HN : Hid (noticed r n = { r with bi := z }) := hide (by unfold noticed; rw [if_neg (fun h => hs h.1), hzz])
    have q2 := hR1.get (j := 2) rfl
    have hsb : (r.st == 2) = false := by simp [hs]
    clear hR1
    go_enter Tryz.func73, Tryz.ntmps73
    go_upto_region 1 with fail
    generalize w.setCell ⟨b, 4, none⟩ (.int .i64 z) = w1 at *
    go_wp2
    refine bodyPost_ret (results_none rfl _ _ _) rfl ?_
    exact ⟨rfl, by rw [HN.out]; exact HR1.out, HA1.out⟩
end Go.Proofs.YtbocpmcodlceoaaGreat

namespace Go.Proofs.YtbocpmcodlceoaaGreat
open Go.RowKit

section
variable (w : World) (F : Nat → Prop) (T : Nat) (rs : List (Option Er)) (last : Int)
set_option maxHeartbeats 800000 in
theorem notify_any (h : Et w F T rs last) (k : Nat) (r : Er) (hr : rs[k]? = some (some r)) (n : Int) (hn : 0 ≤ n ∧ n ≤ 4294967295) (hz : 0 ≤ bits .or .i64 r.bi n ∧ bits .or .i64 r.bi n ≤ 4294967295) : Calls Tryz.prog 29 #[.pointer (some ⟨T, 0, none⟩), .int .i64 (k : Int), .int .i64 n] w fun x w' => x = .returned (.int .i64 0) ∧ Et w' F T (rs.set k (some (noticed r n))) last ∧ Mod F w w' := by
  obtain ⟨S, G, m, h⟩ := h
  have c0 := h.cell.1
  have HG := hide (getL_any _ G S m h.tab (k : Int))
  rcases h.cases (k : Int) with ⟨_, h1⟩ | ⟨k', b, r', e1, hm, h3, h4, _, hR⟩
  · rw [look_nat, hr] at h1; cases h1
  · obtain rfl : k = k' := by omega
    rw [hr] at h3; cases h3
    rw [h4] at HG
    simp only [ptr, Option.isSome_some] at HG
    have HI := hide (isWord_any w n)
    rw [show decide (0 ≤ n ∧ n ≤ 4294967295) = true by simp [hn]] at HI
    have HW := hide (notice_any w b r hR n hz)
    have HH := hide h
    clear h h4 hR hn hz
    go_enter Tryz.func29, Tryz.ntmps29
    go_wp2_with fail
    refine HG.out.mono ?_
    rintro e1 w1 ⟨rfl, rfl⟩
    go_wp2_with fail
    refine HI.out.mono ?_
    rintro e1 w1 ⟨rfl, rfl⟩
    go_wp2_with fail
    refine HW.out.mono ?_
    rintro e1 w2 ⟨rfl, q1, q2⟩
    have HF := hide (Et.upd HH.out hm q1 q2)
    clear q1 q2
    go_wp2
    go_ret
    exact ⟨rfl, HF.out⟩
set_option maxHeartbeats 800000 in
theorem notifyBad_any (h : Et w F T rs last) (k : Nat) (r : Er) (hr : rs[k]? = some (some r)) (n : Int) (hn : ¬ (0 ≤ n ∧ n ≤ 4294967295)) : Calls Tryz.prog 29 #[.pointer (some ⟨T, 0, none⟩), .int .i64 (k : Int), .int .i64 n] w fun x w' => x = .returned (.int .i64 1) ∧ w' = w := by
  obtain ⟨S, G, m, h⟩ := h
  have c0 := h.cell.1
  have HG := hide (getL_any _ G S m h.tab (k : Int))
  rcases h.cases (k : Int) with ⟨_, h1⟩ | ⟨k', b, r', e1, hm, h3, h4, _, hR⟩
  · rw [look_nat, hr] at h1; cases h1
  · obtain rfl : k = k' := by omega
    rw [hr] at h3; cases h3
    rw [h4] at HG
    simp only [ptr, Option.isSome_some] at HG
    have HI := hide (isWord_any w n)
    rw [show decide (0 ≤ n ∧ n ≤ 4294967295) = false by simpa using hn] at HI
    clear h h4 hR hn
    go_enter Tryz.func29, Tryz.ntmps29
    go_wp2_with fail
    refine HG.out.mono ?_
    rintro e1 w1 ⟨rfl, rfl⟩
    go_wp2_with fail
    refine HI.out.mono ?_
    rintro e1 w1 ⟨rfl, rfl⟩
    go_wp2
    go_ret
    exact ⟨rfl, rfl⟩
set_option maxHeartbeats 800000 in
theorem flagged_any (h : Et w F T rs last) (k : Nat) (r : Er) (hr : rs[k]? = some (some r)) : Calls Tryz.prog 80 #[.pointer (some ⟨T, 0, none⟩), .int .i64 (k : Int)] w fun x w' => x = .returned (.bool r.fz) ∧ w' = w := by
  obtain ⟨S, G, m, h⟩ := h
  have c0 := h.cell.1
  have HG := hide (getL_any _ G S m h.tab (k : Int))
  rcases h.cases (k : Int) with ⟨_, h1⟩ | ⟨k', b, r', e1, hm, h3, h4, _, hR⟩
  · rw [look_nat, hr] at h1; cases h1
  · obtain rfl : k = k' := by omega
    rw [hr] at h3; cases h3
    rw [h4] at HG
    simp only [ptr, Option.isSome_some] at HG
    have c5 := hR.get (j := 5) rfl
    clear h h4 hR
    go_enter Tryz.func80, Tryz.ntmps80
    go_wp2_with fail
    refine HG.out.mono ?_
    rintro e1 w1 ⟨rfl, rfl⟩
    go_wp2
    go_ret
    exact ⟨rfl, rfl⟩
end
end Go.Proofs.YtbocpmcodlceoaaGreat

namespace Go.Proofs.YtbocpmcodlceoaaGreat
open Go.ChangeShapes Go.WideShapes Go.ChangeAt Go.RowKit Go.Deep

theorem heap_setCells_other (b k : Nat) (hk : k ≠ b) : ∀ (vs : List Value) (o : Nat) (w : World), (w.setCells b o vs).heap[k]? = w.heap[k]?
  | [], _, _ => rfl
  | v :: r, o, w => by
    rw [World.setCells, heap_setCells_other b k hk r (o + 1) _, heap_setCell_other _ _ _ _ hk]
theorem setCells_rest (b : Nat) : ∀ (vs : List Value) (o : Nat) (w : World), (w.setCells b o vs).os = w.os ∧ (w.setCells b o vs).tape = w.tape ∧ (w.setCells b o vs).output = w.output ∧ (w.setCells b o vs).heap.size = w.heap.size
  | [], _, _ => ⟨rfl, rfl, rfl, rfl⟩
  | v :: r, o, w => by
    obtain ⟨h1, h2, h3, h4⟩ := setCells_rest b r (o + 1) (w.setCell ⟨b, o, none⟩ v)
    rw [World.setCells]
    exact ⟨h1, h2, h3, by rw [h4]; simp [World.setCell]⟩
/-- a row of cells set at a place -/
def setsL (cs : List Value) : Nat → List Value → List Value
  | _, [] => cs
  | o, v :: r => setsL (cs.set o v) (o + 1) r
theorem heap_setCells_row (b t : Nat) : ∀ (vs : List Value) (o : Nat) (w : World) (cs : List Value), w.heap[b]? = some (.cells cs.toArray t (0, 0)) → (w.setCells b o vs).heap[b]? = some (.cells (setsL cs o vs).toArray t (0, 0))
  | [], _, _, _, h => h
  | v :: r, o, w, cs, h => by
    rw [World.setCells]
    refine heap_setCells_row b t r (o + 1) _ (cs.set o v) ?_
    rw [heap_setCell_same _ b o _ _ v h]
    simp
theorem below_setCells {B : Nat} {a w : World} (h : Below B a w) {b : Nat} (hb : B ≤ b) (o : Nat) (vs : List Value) : Below B a (w.setCells b o vs) := by
  induction vs generalizing w o with
  | nil => exact h
  | cons v r ih => rw [World.setCells]; exact ih (h.setCell (p := ⟨b, o, none⟩) hb _) _
theorem At.sets {w w' : World} {b : Nat} (h : At w b w') (o : Nat) (vs : List Value) : At w b (w'.setCells b o vs) := by
  induction vs generalizing w' o with
  | nil => exact h
  | cons v r ih => rw [World.setCells]; exact ih (h.set o v) _
/-- a struct loaded out of whatever address -/
theorem loadT {t : TypeId} {d : TypeDesc} (hu : Tryz.prog.underlying t = some d) (hd : (match d with | .struct _ | .array _ _ => true | _ => false) = true) (cs : List Value) (hi : (Tryz.prog.info? t).map (·.size) = some cs.length) {ops : Array Oper} {rest : List Oper} {op : Oper} {a : Act} {w : World} {Q : Exit → Act → World → Prop} (hw : Region.wanted op (yielded ops a.tmps) = true) (x : Operand) (ho : op.op = .load t x) (ad : Addr)
    (hx : a.eval x = .pointer (some ad)) (hc : ∀ (j : Nat) (v : Value), cs[j]? = some v → w.cell? (ad.add j) = some v) (h : wpList Tryz.prog ops Q rest (a.put op.dst (.agg cs.toArray)) w) : wpList Tryz.prog ops Q (op :: rest) a w :=
  BigFrame.wpList_want hw fun _ hK => by
    have hl : (loadCells ad cs.length).run Tryz.prog w = .ok cs.toArray w := run_loadCells_list w ad cs hc
    have hv : (loadVar t ad).run Tryz.prog w = .ok (.agg cs.toArray) w := by
      cases hq : Tryz.prog.info? t with
      | none => simp [hq] at hi
      | some i =>
        have hs : i.size = cs.length := by simpa [hq] using hi
        have hagg : (isAgg t).run Tryz.prog w = .ok true w := by
          unfold isAgg
          rw [Sem.run_bind, run_underlying hu w]
          cases d <;> simp_all
        simp [loadVar, Sem.run_bind, hagg, sizeOf, typeInfo, hq, hs, hl]
    unfold Oper.wp execOp
    simp only [ho, hx, Instr.loadAt, Instr.sureAddr, Sem.run_bind, Sem.run_pure, Result.andThen_ok, hv]
    exact hK _ _ h
theorem storeT {t : TypeId} (vs : List Value) (hi : (Tryz.prog.info? t).map (·.size) = some vs.length) (h1 : ∀ u ∈ vs, u.oneCell' = true) {ops : Array Oper} {rest : List Oper} {op : Oper} {a : Act} {w : World} {Q : Exit → Act → World → Prop} (hw : Region.wanted op (yielded ops a.tmps) = true) (x y : Operand) (ho : op.op = .store t x y) (N o : Nat)
    (hx : a.eval x = .pointer (some ⟨N, o, none⟩)) (hy : a.eval y = .agg vs.toArray) {ty : TypeId} (cs : List Value) (hc : w.heap[N]? = some (.cells cs.toArray ty (0, 0))) (hl : o + vs.length ≤ cs.length) (h : wpList Tryz.prog ops Q rest (a.put op.dst undef) (w.setCells N o vs)) : wpList Tryz.prog ops Q (op :: rest) a w :=
  BigFrame.wpList_want hw fun _ hK => wp_store_mid t x y ho N o vs.toArray hx hy (fun j hj => by
    rw [List.size_toArray] at hj
    refine ⟨?_, frozen_of_row _ _ _ _ _ hc⟩
    rw [cell_of_row _ _ _ _ _ _ hc]
    have hlt : o + j < cs.length := by omega
    simp [hlt]) (by rw [List.size_toArray]; exact hi) (all_oneCell_toArray h1) (hK _ _ h)
/-- what is told of a record: its first cells -/
def Er.head (e : Er) : List Value :=
  [.int .i64 e.se, .int .i64 e.pa, .int .i64 e.st, .int .i64 e.co, .int .i64 e.bi, .bool e.fz, .int .u32 (e.rg 0 : Nat), .int .u32 (e.rg 1 : Nat), .int .u32 (e.rg 2 : Nat), .int .u32 (e.rg 3 : Nat), .int .u32 (e.rg 4 : Nat), .int .u32 (e.rg 5 : Nat), .int .u32 (e.rg 6 : Nat), .int .u32 (e.rg 7 : Nat), .int .u32 (e.pc : Nat),
   .int .i64 e.qu.f, .int .i64 e.qu.e, .int .i64 e.qu.x, .int .i64 e.lf.f, .int .i64 e.lf.e, .int .i64 e.lf.x]
def Er.told (e : Er) : Er := { e with lf := e.le }
def Er.nil : Er := Er.new 0 0 Qt.zero
theorem head_len (e : Er) : e.head.length = 21 := rfl
theorem head_one (e : Er) : ∀ u ∈ e.head, u.oneCell' = true := by
  intro u hu
  simp [Er.head] at hu
  rcases hu with rfl | rfl | rfl | rfl | rfl | rfl | rfl | rfl | rfl | rfl | rfl | rfl | rfl | rfl | rfl | rfl | rfl | rfl | rfl | rfl | rfl <;> rfl
theorem infoE : (Tryz.prog.info? 46).map (·.size) = some 21 := by kernel_rfl
/-- an api.Env at block N -/
structure Eb (w : World) (N : Nat) (e : Er) : Prop where
  out : w.heap[N]? = some (.cells e.head.toArray 46 (0, 0))
section
variable {w w' : World} {N : Nat} {e : Er}
theorem Eb.get (h : Eb w N e) {j : Nat} {v : Value} (hv : e.head[j]? = some v) : w.cell? ⟨N, j, none⟩ = some v := by
  rw [cell_of_row _ _ _ _ _ _ h.out]; simpa using hv
theorem Eb.lt (h : Eb w N e) : N < w.heap.size := (Array.getElem?_eq_some_iff.1 h.out).1
theorem Eb.keep (h : Eb w N e) (hk : w'.heap[N]? = w.heap[N]?) : Eb w' N e := ⟨hk.trans h.out⟩
theorem Eb.new (w : World) (e : Er) : Eb (w.alloc (.cells e.head.toArray 46)) w.heap.size e := ⟨heap_alloc_new _ _⟩
theorem Eb.lay (h : Eb w N e) (e' : Er) : Eb (w.setCells N 0 e'.head) N e' := by
  have h1 := heap_setCells_row N 46 e'.head 0 w _ h.out
  rw [show setsL e.head 0 e'.head = e'.head by simp only [Er.head, setsL, List.set]] at h1
  exact ⟨h1⟩
end
theorem add_nat (b j : Nat) : (⟨b, 0, none⟩ : Addr).add j = ⟨b, j, none⟩ := by
  by_cases hj : j = 0
  · subst hj; rfl
  · simp [Addr.add, hj]
theorem Rb.hcell {w : World} {b : Nat} {e : Er} (h : Rb w b e) (j : Nat) (v : Value) (hv : e.head[j]? = some v) : w.cell? ((⟨b, 0, none⟩ : Addr).add j) = some v := by
  have hj : j < 21 := by have := (List.getElem?_eq_some_iff.1 hv).1; rwa [head_len] at this
  have hc : e.cells[j]? = some v := by
    rw [show e.cells = e.head ++ [.int .i64 e.pd.f, .int .i64 e.pd.e, .int .i64 e.pd.x, .int .i64 e.le.f, .int .i64 e.le.e, .int .i64 e.le.x] from rfl, List.getElem?_append_left (by rw [head_len]; exact hj)]; exact hv
  rw [add_nat]
  exact h.get hc
theorem Eb.hcell {w : World} {b : Nat} {e : Er} (h : Eb w b e) (j : Nat) (v : Value) (hv : e.head[j]? = some v) : w.cell? ((⟨b, 0, none⟩ : Addr).add j) = some v := by
  rw [add_nat]
  exact h.get hv
end Go.Proofs.YtbocpmcodlceoaaGreat

namespace Go.Proofs.YtbocpmcodlceoaaGreat
open Go.ChangeShapes Go.WideShapes Go.ChangeAt Go.RowKit Go.Deep

/-- a new api.Env, and what is told of a record laid into it -/
def freshE (w : World) (e : Er) : World := (w.alloc (.cells Er.nil.head.toArray 46)).setCells w.heap.size 0 e.head
theorem freshE_eb (w : World) (e : Er) : Eb (freshE w e) w.heap.size e := (Eb.new w Er.nil).lay e
theorem freshE_below (w : World) (e : Er) : Below w.heap.size w (freshE w e) :=
  below_setCells ((Below.refl w.heap.size w).alloc (Nat.le_refl _) _) (Nat.le_refl _) _ _
theorem Eb.set {w : World} {b : Nat} {e e' : Er} (h : Eb w b e) {j : Nat} {u : Value} (he : e.head.set j u = e'.head) : Eb (w.setCell ⟨b, j, none⟩ u) b e' := by
  refine ⟨?_⟩
  have h1 := heap_setCell_same _ b j _ _ u h.out
  rw [h1, ← he]
  congr 2
  simp
theorem Eb.frz {w : World} {b : Nat} {e : Er} (h : Eb w b e) (j : Nat) : w.frozen? ⟨b, j, none⟩ = false := frozen_of_row _ _ _ _ _ h.out
theorem loadE (e : Er) {ops : Array Oper} {rest : List Oper} {op : Oper} {a : Act} {w : World} {Q : Exit → Act → World → Prop} (hw : Region.wanted op (yielded ops a.tmps) = true) (x : Operand) (ho : op.op = .load 46 x) (ad : Addr)
    (hx : a.eval x = .pointer (some ad)) (hc : ∀ (j : Nat) (v : Value), e.head[j]? = some v → w.cell? (ad.add j) = some v) (h : wpList Tryz.prog ops Q rest (a.put op.dst (.agg e.head.toArray)) w) : wpList Tryz.prog ops Q (op :: rest) a w :=
  loadT Tryz.underlying46 rfl e.head (by rw [head_len]; exact infoE) hw x ho ad hx hc h
theorem storeE (e : Er) {ops : Array Oper} {rest : List Oper} {op : Oper} {a : Act} {w : World} {Q : Exit → Act → World → Prop} (hw : Region.wanted op (yielded ops a.tmps) = true) (x y : Operand) (ho : op.op = .store 46 x y) (N : Nat) (q : Er)
    (hx : a.eval x = .pointer (some ⟨N, 0, none⟩)) (hy : a.eval y = .agg e.head.toArray) (hc : Eb w N q) (h : wpList Tryz.prog ops Q rest (a.put op.dst undef) (w.setCells N 0 e.head)) : wpList Tryz.prog ops Q (op :: rest) a w :=
  storeT e.head (by rw [head_len]; exact infoE) (head_one e) hw x y ho N 0 hx hy q.head hc.out (by rw [head_len, head_len]; exact Nat.le_refl _) h
set_option maxHeartbeats 3200000 in
set_option maxRecDepth 8000 in
theorem tell_any (w : World) (b : Nat) (r : Er) (h : Rb w b r) : Calls Tryz.prog 57 #[.pointer (some ⟨b, 0, none⟩)] w fun e w' => e = .returned (.agg r.told.head.toArray) ∧ Below w.heap.size w w' := by
  have h0 : Eb (w.alloc (.cells Er.nil.head.toArray 46)) w.heap.size Er.nil := Eb.new _ _
  have hb0 := (Below.refl w.heap.size w).alloc (Nat.le_refl _) (.cells Er.nil.head.toArray 46)
  have hR0 := h.keep (hb0.block b h.lt)
  have HB0 := hide hb0
  clear h hb0
  go_enter Tryz.func57, Tryz.ntmps57
  go_upto_region 1 with fail
  show Code.wp _ _ _ _ (w.alloc (.cells Er.nil.head.toArray 46))
  generalize w.alloc (.cells Er.nil.head.toArray 46) = w1 at *
  have hz : Eb (w1.alloc (.cells Er.nil.head.toArray 46)) w1.heap.size Er.nil := Eb.new _ _
  have HE := hide (freshE_eb w1 r)
  have HB1 := hide (freshE_below w1 r)
  have HR0 := hide hR0
  have H0 := hide h0
  clear hR0 h0
  go_upto_region 2 with (first | refine loadE r ?lw _ rfl ⟨b, 0, none⟩ ?lx ?lc ?_ | refine storeE r ?sw _ _ rfl w1.heap.size Er.nil ?sx ?sy ?sz ?_)
  try (case lw => rfl)
  case lx => rfl
  case lc => exact HR0.out.hcell
  try (case sw => rfl)
  case sx => rfl
  case sy => rfl
  case sz => exact hz
  show Code.wp _ _ _ _ (freshE w1 r)
  clear hz
  have hR2 : Rb (freshE w1 r) b r := HR0.out.keep (HB1.out.block b HR0.out.lt)
  have h2 : Eb (freshE w1 r) w.heap.size Er.nil := H0.out.keep (HB1.out.block _ H0.out.lt)
  have HB2 : Hid (Below w.heap.size w (freshE w1 r)) := hide (HB0.out.trans (HB1.out.mono HB0.out.size))
  have HN : Hid (w.heap.size ≤ w1.heap.size) := hide HB0.out.size
  have hne : w.heap.size ≠ w1.heap.size := Nat.ne_of_lt H0.out.lt
  have HNE := hide hne
  clear HB0 HB1 HR0 H0 hne
  generalize freshE w1 r = w2 at *
  generalize w1.heap.size = N at *
  have k0 := hR2.get (j := 24) rfl
  have k1 := hR2.get (j := 25) rfl
  have k2 := hR2.get (j := 26) rfl
  have q0 := HE.out.get (j := 18) rfl
  have q1 := HE.out.get (j := 19) rfl
  have q2 := HE.out.get (j := 20) rfl
  have f0 := HE.out.frz 18
  have f1 := HE.out.frz 19
  have f2 := HE.out.frz 20
  clear hR2
  have HE3 : Hid (Eb (((w2.setCell ⟨N, 18, none⟩ (.int .i64 r.le.f)).setCell ⟨N, 19, none⟩ (.int .i64 r.le.e)).setCell ⟨N, 20, none⟩ (.int .i64 r.le.x)) N r.told) :=
    hide (Eb.set (e := { r with lf := ⟨r.le.f, r.le.e, r.lf.x⟩ }) (Eb.set (e := { r with lf := ⟨r.le.f, r.lf.e, r.lf.x⟩ }) (HE.out.set rfl) rfl) rfl)
  have H3 : Hid (Eb (((w2.setCell ⟨N, 18, none⟩ (.int .i64 r.le.f)).setCell ⟨N, 19, none⟩ (.int .i64 r.le.e)).setCell ⟨N, 20, none⟩ (.int .i64 r.le.x)) w.heap.size Er.nil) :=
    hide (h2.keep (by rw [heap_setCell_other _ _ _ _ HNE.out, heap_setCell_other _ _ _ _ HNE.out, heap_setCell_other _ _ _ _ HNE.out]))
  have HB3 := hide ((((HB2.out.setCell (p := ⟨N, 18, none⟩) HN.out (.int .i64 r.le.f)).setCell (p := ⟨N, 19, none⟩) HN.out (.int .i64 r.le.e)).setCell (p := ⟨N, 20, none⟩) HN.out (.int .i64 r.le.x)))
  clear h2
  go_upto_region 3 with fail
  generalize ((w2.setCell ⟨N, 18, none⟩ (.int .i64 r.le.f)).setCell ⟨N, 19, none⟩ (.int .i64 r.le.e)).setCell ⟨N, 20, none⟩ (.int .i64 r.le.x) = w3 at *
  clear k0 k1 k2 q0 q1 q2 f0 f1 f2 HE HB2 HN HNE
  obtain ⟨t, ht⟩ : ∃ t, r.told = t := ⟨_, rfl⟩
  rw [ht] at HE3
  have HT := hide ht
  have HE4 := hide (H3.out.lay t).out
  have HB4 := hide (below_setCells HB3.out (Nat.le_refl _) 0 t.head)
  clear ht
  go_wp2_with (refine loadE t ?mw _ rfl ⟨N, 0, none⟩ ?mx ?mc ?_; rotate_left 3; simp only [Act.put, List.setIfInBounds_toArray, List.set_cons_zero, List.set_cons_succ]; refine storeE t ?nw _ _ rfl w.heap.size Er.nil ?nx ?ny ?nz ?_; rotate_left 4; generalize w3.setCells w.heap.size 0 t.head = w4 at *)
  try (case mw => rfl)
  try (case mx => rfl)
  try (case nw => rfl)
  try (case nx => rfl)
  try (case ny => rfl)
  case mc => exact HE3.out.hcell
  case nz => exact H3.out
  refine bodyPost_ret (results_row1 rfl _ _ w.heap.size 46 t.head.toArray (0, 0) _ rfl HE4.out Tryz.underlying46 rfl (by rw [List.size_toArray, head_len]; exact infoE)) rfl ?_
  exact ⟨by rw [HT.out], HB4.out⟩
end Go.Proofs.YtbocpmcodlceoaaGreat

namespace Go.Proofs.YtbocpmcodlceoaaGreat
open Go.ChangeShapes Go.WideShapes Go.ChangeAt Go.RowKit Go.Deep

theorem results_row2 {P : Program} {fn : Func} {p u : Tmp} {ty : TypeId} (h : fn.results = #[.cell p ty, .tmp u]) (tmps : Array Value) (w : World) (g : Nat) (t : TypeId) (cs : Array Value) (fr : Nat × Nat) (d : TypeDesc)
    (hp : tmps.getD p undef = .pointer (some ⟨g, 0, none⟩)) (hg : w.heap[g]? = some (.cells cs t fr))
    (hu : P.underlying ty = some d) (hd : (match d with | .struct _ | .array _ _ => true | _ => false) = true) (hi : (P.info? ty).map (·.size) = some cs.size) :
    (results fn tmps).run P w = .ok (.tuple #[.agg cs, tmps.getD u undef]) w := by
  rw [results_cell_tmp h, hp]
  simp [asAddr, run_loadVar_row w g t ty cs fr d hg hu hd hi]
section
variable (w : World) (F : Nat → Prop) (T : Nat) (rs : List (Option Er)) (last : Int)
set_option maxRecDepth 8000 in
set_option maxHeartbeats 3200000 in
theorem info_any (h : Et w F T rs last) (k : Nat) (r : Er) (hr : rs[k]? = some (some r)) : Calls Tryz.prog 13 #[.pointer (some ⟨T, 0, none⟩), .int .i64 (k : Int)] w fun x w' => x = .returned (.tuple #[.agg r.told.head.toArray, .int .i64 0]) ∧ Below w.heap.size w w' := by
  have h0 : Eb (w.alloc (.cells Er.nil.head.toArray 46)) w.heap.size Er.nil := Eb.new _ _
  have hb0 := (Below.refl w.heap.size w).alloc (Nat.le_refl _) (.cells Er.nil.head.toArray 46)
  obtain ⟨S, G, m, h⟩ := h
  have h := h.below hb0
  have HB0 := hide hb0
  have H0 := hide h0
  clear hb0 h0
  go_enter Tryz.func13, Tryz.ntmps13
  go_upto_region 1 with fail
  show Code.wp _ _ _ _ (w.alloc (.cells Er.nil.head.toArray 46))
  generalize w.alloc (.cells Er.nil.head.toArray 46) = w1 at *
  have c0 := h.cell.1
  have HG := hide (getL_any _ G S m h.tab (k : Int))
  rcases h.cases (k : Int) with ⟨_, h1⟩ | ⟨k', b, r', e1, hm, h3, h4, _, hR⟩
  · rw [look_nat, hr] at h1; cases h1
  · obtain rfl : k = k' := by omega
    rw [hr] at h3; cases h3
    rw [h4] at HG
    simp only [ptr, Option.isSome_some] at HG
    have HW := hide (tell_any w1 b r hR)
    clear h h4 hR
    go_wp2_with fail
    refine HG.out.mono ?_
    rintro e1 w2 ⟨rfl, rfl⟩
    go_wp2_with fail
    refine HW.out.mono ?_
    rintro e1 w2 ⟨rfl, hb⟩
    have H2 : Hid (Eb w2 w.heap.size Er.nil) := hide (H0.out.keep (hb.block _ H0.out.lt))
    have HB2 : Hid (Below w.heap.size w w2) := hide (HB0.out.trans (hb.mono HB0.out.size))
    obtain ⟨t, ht⟩ : ∃ t, r.told = t := ⟨_, rfl⟩
    rw [ht]
    have HT := hide ht
    clear ht
    have HE4 := hide (H2.out.lay t).out
    have HB4 := hide (below_setCells HB2.out (Nat.le_refl _) 0 t.head)
    clear hb HB0 H0 HG HW c0
    go_wp2_with (refine storeE t ?nw _ _ rfl w.heap.size Er.nil ?nx ?ny ?nz ?_; rotate_left 4; generalize w2.setCells w.heap.size 0 t.head = w4 at *)
    try (case nw => rfl)
    try (case nx => rfl)
    try (case ny => rfl)
    case nz => exact H2.out
    refine bodyPost_ret (results_row2 rfl _ _ w.heap.size 46 t.head.toArray (0, 0) _ rfl HE4.out Tryz.underlying46 rfl (by rw [List.size_toArray, head_len]; exact infoE)) rfl ?_
    exact ⟨by rw [HT.out]; rfl, HB4.out⟩
end
/-- registers -/
def regsL (g : Nat → Nat) (pc : Nat) : List Value := [.int .u32 (g 0 : Nat), .int .u32 (g 1 : Nat), .int .u32 (g 2 : Nat), .int .u32 (g 3 : Nat), .int .u32 (g 4 : Nat), .int .u32 (g 5 : Nat), .int .u32 (g 6 : Nat), .int .u32 (g 7 : Nat), .int .u32 (pc : Nat)]
theorem regs_len (g : Nat → Nat) (pc : Nat) : (regsL g pc).length = 9 := rfl
theorem regs_one (g : Nat → Nat) (pc : Nat) : ∀ u ∈ regsL g pc, u.oneCell' = true := by
  intro u hu
  simp [regsL] at hu
  rcases hu with rfl | rfl | rfl | rfl | rfl | rfl | rfl | rfl | rfl <;> rfl
theorem infoR : (Tryz.prog.info? 35).map (·.size) = some 9 := by kernel_rfl
theorem Rb.regs {w : World} {b : Nat} {e : Er} (h : Rb w b e) (g : Nat → Nat) (pc : Nat) : Rb (w.setCells b 6 (regsL g pc)) b { e with rg := g, pc := pc } := by
  have h1 := heap_setCells_row b 78 (regsL g pc) 6 w _ h.out
  rw [show setsL e.cells 6 (regsL g pc) = ({ e with rg := g, pc := pc } : Er).cells by simp only [Er.cells, regsL, setsL, List.set]] at h1
  exact ⟨h1⟩
section
variable (w : World) (F : Nat → Prop) (T : Nat) (rs : List (Option Er)) (last : Int)
set_option maxRecDepth 8000 in
set_option maxHeartbeats 3200000 in
theorem setRegs_any (h : Et w F T rs last) (k : Nat) (r : Er) (hr : rs[k]? = some (some r)) (g : Nat → Nat) (pc : Nat) : Calls Tryz.prog 23 #[.pointer (some ⟨T, 0, none⟩), .int .i64 (k : Int), .agg (regsL g pc).toArray] w fun x w' => x = .returned (.int .i64 0) ∧ Et w' F T (rs.set k (some { r with rg := g, pc := pc })) last ∧ Mod F w w' := by
  have h0 := heap_alloc_new w (.cells (regsL g pc).toArray 35)
  have hb0 := (Below.refl w.heap.size w).alloc (Nat.le_refl _) (.cells (regsL g pc).toArray 35)
  obtain ⟨S, G, m, h⟩ := h
  have h := h.below hb0
  have hlt := h.lt
  have HM0 : Hid (Mod F w (w.alloc (.cells (regsL g pc).toArray 35))) := hide ((Mod.refl F w).alloc _)
  clear hb0
  go_enter Tryz.func23, Tryz.ntmps23
  go_upto_region 1 with fail
  show Code.wp _ _ _ _ (w.alloc (.cells (regsL g pc).toArray 35))
  have H0 := hide h0
  clear h0
  generalize w.alloc (.cells (regsL g pc).toArray 35) = w1 at *
  have c0 := h.cell.1
  have HG := hide (getL_any _ G S m h.tab (k : Int))
  rcases h.cases (k : Int) with ⟨_, h1⟩ | ⟨k', b, r', e1, hm, h3, h4, _, hR⟩
  · rw [look_nat, hr] at h1; cases h1
  · obtain rfl : k = k' := by omega
    rw [hr] at h3; cases h3
    rw [h4] at HG
    simp only [ptr, Option.isSome_some] at HG
    have HF := hide (Et.upd h hm (hR.regs g pc) ((At.refl w1 b).sets 6 (regsL g pc)))
    have HR := hide hR
    clear h h4 hR hlt
    go_wp2_with fail
    refine HG.out.mono ?_
    rintro e1 w2 ⟨rfl, rfl⟩
    go_upto_region 4 with fail
    have p0 : w2.cell? ⟨w.heap.size, 0, none⟩ = some (.int .u32 (g 0 : Nat)) := by rw [cell_of_row _ _ _ _ _ _ H0.out]; rfl
    have q0 := HR.out.get (j := 6) rfl
    have f0 := HR.out.frz 6
    have p1 : w2.cell? ⟨w.heap.size, 1, none⟩ = some (.int .u32 (g 1 : Nat)) := by rw [cell_of_row _ _ _ _ _ _ H0.out]; rfl
    have q1 := HR.out.get (j := 7) rfl
    have f1 := HR.out.frz 7
    have p2 : w2.cell? ⟨w.heap.size, 2, none⟩ = some (.int .u32 (g 2 : Nat)) := by rw [cell_of_row _ _ _ _ _ _ H0.out]; rfl
    have q2 := HR.out.get (j := 8) rfl
    have f2 := HR.out.frz 8
    have p3 : w2.cell? ⟨w.heap.size, 3, none⟩ = some (.int .u32 (g 3 : Nat)) := by rw [cell_of_row _ _ _ _ _ _ H0.out]; rfl
    have q3 := HR.out.get (j := 9) rfl
    have f3 := HR.out.frz 9
    have p4 : w2.cell? ⟨w.heap.size, 4, none⟩ = some (.int .u32 (g 4 : Nat)) := by rw [cell_of_row _ _ _ _ _ _ H0.out]; rfl
    have q4 := HR.out.get (j := 10) rfl
    have f4 := HR.out.frz 10
    have p5 : w2.cell? ⟨w.heap.size, 5, none⟩ = some (.int .u32 (g 5 : Nat)) := by rw [cell_of_row _ _ _ _ _ _ H0.out]; rfl
    have q5 := HR.out.get (j := 11) rfl
    have f5 := HR.out.frz 11
    have p6 : w2.cell? ⟨w.heap.size, 6, none⟩ = some (.int .u32 (g 6 : Nat)) := by rw [cell_of_row _ _ _ _ _ _ H0.out]; rfl
    have q6 := HR.out.get (j := 12) rfl
    have f6 := HR.out.frz 12
    have p7 : w2.cell? ⟨w.heap.size, 7, none⟩ = some (.int .u32 (g 7 : Nat)) := by rw [cell_of_row _ _ _ _ _ _ H0.out]; rfl
    have q7 := HR.out.get (j := 13) rfl
    have f7 := HR.out.frz 13
    have p8 : w2.cell? ⟨w.heap.size, 8, none⟩ = some (.int .u32 (pc : Nat)) := by rw [cell_of_row _ _ _ _ _ _ H0.out]; rfl
    have q8 := HR.out.get (j := 14) rfl
    have f8 := HR.out.frz 14
    go_upto_region 5 with fail
    show Code.wp _ _ _ _ (w2.setCells b 6 (regsL g pc))
    generalize w2.setCells b 6 (regsL g pc) = w4 at *
    clear p0 p1 p2 p3 p4 p5 p6 p7 p8 q0 q1 q2 q3 q4 q5 q6 q7 q8 f0 f1 f2 f3 f4 f5 f6 f7 f8
    go_wp2
    go_ret
    exact ⟨rfl, HF.out.1, HM0.out.trans HF.out.2⟩
end
end Go.Proofs.YtbocpmcodlceoaaGreat

namespace Go.Proofs.YtbocpmcodlceoaaGreat
open Go.RowKit

/-- a number and all above it -/
def Line (rs : List (Option Er)) : Int → List Int → Prop
  | e, [] => look rs e = none
  | e, z :: l => z = e ∧ ∃ r : Er, look rs e = some r ∧ Line rs r.pa l
theorem line_none {rs : List (Option Er)} {e : Int} (h : look rs e = none) : Line rs e [] := h
theorem line_some {rs : List (Option Er)} {e : Int} {r : Er} {l : List Int} (h : look rs e = some r) (hl : Line rs r.pa l) : Line rs e (e :: l) := ⟨rfl, r, h, hl⟩
theorem line_cases {rs : List (Option Er)} {e : Int} {l : List Int} (h : Line rs e l) : (look rs e = none ∧ l = []) ∨ ∃ (r : Er) (l' : List Int), look rs e = some r ∧ l = e :: l' ∧ Line rs r.pa l' := by
  cases l with
  | nil => exact .inl ⟨h, rfl⟩
  | cons z l =>
    obtain ⟨rfl, r, h1, h2⟩ := h
    exact .inr ⟨r, l, h1, rfl, h2⟩
def nums (l : List Int) : List Value := l.map (fun k => Value.int .i64 k)
theorem nums_len (l : List Int) : (nums l).length = l.length := by simp [nums]
def slLen : Value → Nat | .slice _ n _ => n | _ => 0
theorem own_below {w w' : World} {base : Nat} {e : TypeId} {size : Nat} {v : Value} {n : Nat} {xs : List Value} (h : w.ownsRow base e size v n xs) (hb : Below w.heap.size w w') : w'.ownsRow base e size v n xs := by
  obtain ⟨h1, h2 | ⟨g, cap, cur, h2, h3, h4, h5⟩⟩ := h
  · exact ⟨h1, .inl h2⟩
  · exact ⟨h1, .inr ⟨g, cap, cur, h2, h3, (hb.block g (Array.getElem?_eq_some_iff.1 h4).1).trans h4, h5⟩⟩
theorem own_shape {w : World} {base : Nat} {e : TypeId} {size : Nat} {v : Value} {n : Nat} {xs : List Value} (h : w.ownsRow base e size v n xs) : ∃ a c, v = .slice a n c := by
  obtain ⟨h1, ⟨h2, h3⟩ | ⟨g, cap, cur, h2, _⟩⟩ := h
  · exact ⟨none, 0, by rw [h2, h3]⟩
  · exact ⟨_, _, h2⟩
theorem info3' : ∃ i, Tryz.prog.info? 3 = some i ∧ i.zero = some (.int .i64 0) ∧ i.size = 1 ∧ i.bytes = 8 := info_parts (by kernel_rfl)
set_option maxRecDepth 8000 in
set_option maxHeartbeats 3200000 in
theorem line_any (w : World) (F : Nat → Prop) (T : Nat) (rs : List (Option Er)) (last : Int) (h : Et w F T rs last) (e : Int) (l : List Int) (hL : Line rs e l) (hl : l.length ≤ 16) :
    Calls Tryz.prog 77 #[.pointer (some ⟨T, 0, none⟩), .int .i64 e] w fun x w' => ∃ v, x = .returned v ∧ w'.ownsRow w.heap.size 3 1 v l.length (nums l) ∧ Below w.heap.size w w' := by
  obtain ⟨S, G, m, h⟩ := h
  obtain ⟨i3, hi, hz, hs, hb⟩ := info3'
  have HH := hide h
  have c0 := h.cell.1
  have HG := hide (getL_any _ G S m h.tab e)
  have HL := hide hL
  obtain ⟨P, hP⟩ : ∃ P, ptr (look m e) = P := ⟨_, rfl⟩
  obtain ⟨Y, hY⟩ : ∃ Y, (look m e).isSome = Y := ⟨_, rfl⟩
  rw [hP, hY] at HG
  have HP := hide hP
  have HY := hide hY
  clear h hL hP hY
  go_enter Tryz.func77, Tryz.ntmps77
  go_wp2_with fail
  refine HG.out.mono ?_
  rintro e1 w1 ⟨rfl, rfl⟩
  go_wp2_with fail
  go_loopw [1, 5, 6, 7] (fun x u p q wr => ∃ (f : Int) (dn rest : List Int), x = .int .i64 f ∧ p = ptr (look m f) ∧ q = .bool (look m f).isSome ∧ l = dn ++ rest ∧ Hid (Line rs f rest) ∧ Hid (wr.ownsRow w1.heap.size 3 1 u dn.length (nums dn)) ∧ Hid (Below w1.heap.size w1 wr)) (fun _ u _ _ _ => 16 - slLen u)
  case atStart => exact ⟨e, [], l, rfl, HP.out.symm, by rw [HY.out], rfl, HL, ⟨rfl, .inl ⟨rfl, rfl⟩⟩, Below.refl _ _⟩
  case round =>
  obtain ⟨f, dn, rest, rfl, rfl, rfl, hdn, KL, KO, KB⟩ := hrel
  have HDN := hide hdn
  clear hdn HG c0
  have HR1 := hide (HH.out.below KB.out)
  have c0 := HR1.out.cell.1
  rcases HR1.out.cases f with ⟨h1, h2⟩ | ⟨k, b, r, rfl, hm, h3, h4, h5, hR⟩
  · have hrest : rest = [] := by
      have := KL.out
      rcases line_cases this with ⟨_, h⟩ | ⟨_, _, h, _⟩
      · exact h
      · rw [h2] at h; cases h
    subst hrest
    have HF : Hid (wr.ownsRow w1.heap.size 3 1 u5 l.length (nums l)) := hide (by rw [HDN.out, List.append_nil]; exact KO.out)
    rw [h1]
    clear h1 h2 HDN KO
    simp only [ptr, Option.isSome_none]
    go_wp2
    go_ret
    exact ⟨_, rfl, HF.out, KB.out⟩
  · obtain ⟨rest', hrest, HLn⟩ : ∃ rest', rest = (k : Int) :: rest' ∧ Hid (Line rs r.pa rest') := by
      have := KL.out
      rcases line_cases this with ⟨h, _⟩ | ⟨_, l', h, h', hl⟩
      · rw [h5] at h; cases h
      · rw [h5] at h; cases h; exact ⟨l', h', hide hl⟩
    have hle : dn.length + 1 ≤ 16 := by
      have := congrArg List.length HDN.out
      rw [hrest] at this; simp at this; omega
    obtain ⟨L, hLn⟩ : ∃ L, dn.length = L := ⟨_, rfl⟩
    rw [hLn] at hle KO
    have HLN := hide hLn
    have HRST := hide hrest
    have hkz := KB.out.size
    obtain ⟨au, cu, rfl⟩ := own_shape KO.out
    have HRb := hide hR
    have HM := hide hm
    have h3' := hide h3
    clear hLn hrest hR h5 h3 hm
    rw [h4]
    clear h4
    simp only [ptr, Option.isSome_some]
    go_upto_region 6 with (at_builtin; refine wpList_append_own_at _ rfl _ _ 50 rfl w1.heap.size 3 i3 (.int .i64 0) 1 8 Tryz.underlying50 hi hz hs hb rfl (by decide) (.slice au L cu) L (nums dn) rfl (KO.out.alloc _) ⟨wr.heap.size, 0, none⟩ 1 1 [.int .i64 (k : Int)] rfl rfl (cell_one_new _ _ _) (by simp [Value.oneCell']) (by unfold maxLen; omega) (by omega) (by simp; omega) ?_; intro v2 w2 ho2 hg2 _ _)
    have HO2 : Hid (w2.ownsRow w1.heap.size 3 1 v2 (dn ++ [(k : Int)]).length (nums (dn ++ [(k : Int)]))) := by
      refine hide ?_
      have h9 := ho2
      simpa [nums, HLN.out] using h9
    have HB2 : Hid (Below w1.heap.size w1 w2) := hide ((KB.out.alloc hkz _).grown hg2 (by simp; omega) (fun j hj => (KO.out.lt j hj).1))
    have HR2 := hide (HH.out.below HB2.out)
    have c1 := HR2.out.cell.1
    obtain ⟨r2, h6, h7⟩ := HR2.out.held k b HM.out
    obtain rfl : r = r2 := by
      obtain ⟨r3, h8, h9⟩ := HR1.out.held k b HM.out
      rw [h6] at h8; cases h8
      exact Option.some.inj (Option.some.inj (h3'.out.symm.trans h6))
    have d1 := h7.get (j := 1) rfl
    have HG := hide (getL_any _ G S m HR2.out.tab r.pa)
    obtain ⟨P2, hP2⟩ : ∃ P, ptr (look m r.pa) = P := ⟨_, rfl⟩
    obtain ⟨Y2, hY2⟩ : ∃ Y, (look m r.pa).isSome = Y := ⟨_, rfl⟩
    rw [hP2, hY2] at HG
    have HP2 := hide hP2
    have HY2 := hide hY2
    have HS2 := hide (own_shape ho2)
    clear hP2 hY2 ho2 hg2 h6 h7 c0
    go_wp2_with fail
    refine HG.out.mono ?_
    rintro e1 w3 ⟨rfl, rfl⟩
    go_wp2
    go_roundw
    case rel =>
      have HD2 : Hid (l = (dn ++ [(k : Int)]) ++ rest') := hide (by rw [HDN.out, HRST.out]; simp)
      first
        | exact ⟨r.pa, dn ++ [(k : Int)], rest', rfl, HP2.out.symm, by rw [HY2.out], HD2.out, HLn, HO2, HB2⟩
        | ((repeat apply Exists.intro); refine ⟨?_, rfl⟩; exact ⟨r.pa, dn ++ [(k : Int)], rest', rfl, HP2.out.symm, by rw [HY2.out], HD2.out, HLn, HO2, HB2⟩)
    case measure =>
      obtain ⟨a9, c9, e9⟩ := HS2.out
      simp [e9, slLen]; omega
end Go.Proofs.YtbocpmcodlceoaaGreat
