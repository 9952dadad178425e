import Derived.Test.YtogpgchfaalikaaSG
namespace Go.Proofs.Ytogpgchfaalikaa
open Go.ChangeShapes Go.WideShapes Go.ChangeAt Go.RowKit Go.Deep

theorem loadT_run {t : TypeId} {d : TypeDesc} (hu : Try.prog.underlying t = some d) (hd : (match d with | .struct _ | .array _ _ => true | _ => false) = true) (cs : List Value) (hi : (Try.prog.info? t).map (·.size) = some cs.length) {op : Oper} {w : World} (ev : Operand → Value) (x : Operand) (ho : op.op = .load t x) (ad : Addr)
    (hx : ev x = .pointer (some ad)) (hc : ∀ (j : Nat) (v : Value), cs[j]? = some v → w.cell? (ad.add j) = some v) : (execOp ev op).run Try.prog w = .ok (.value (.agg cs.toArray)) w := by
  have hl : (loadCells ad cs.length).run Try.prog w = .ok cs.toArray w := run_loadCells_list w ad cs hc
  have hv : (loadVar t ad).run Try.prog w = .ok (.agg cs.toArray) w := by
    cases hq : Try.prog.info? t with
    | none => simp [hq] at hi
    | some i =>
      have hs : i.size = cs.length := by simpa [hq] using hi
      have hagg : (isAgg t).run Try.prog w = .ok true w := by
        unfold isAgg
        rw [Sem.run_bind, run_underlying hu w]
        cases d <;> simp_all
      simp [loadVar, Sem.run_bind, hagg, sizeOf, typeInfo, hq, hs, hl]
  unfold execOp
  simp only [ho, hx, Instr.loadAt, Instr.sureAddr, Sem.run_bind, Sem.run_pure, Result.andThen_ok, hv]
/-- a pair of tables, the program's and the document's -/
def PrA (T B K R : Nat) (C : Nat → Cl) (N : Nat) : Asn := fun W H => ∃ F, Pr W T (dvB B) K R C N F ∧ ∀ b, H b ↔ wi T F b
section
variable {T B K R N M : Nat} {C C' : Nat → Cl} {D : Dsk} {Q : Asn} {W : World} {H : Nat → Prop}
theorem good_pr : Good (PrA T B K R C N) := by
  refine ⟨?_, ?_⟩
  · rintro W H ⟨F, h, he⟩ b hb
    rcases (he b).1 hb with rfl | e
    · exact h.tb.lt
    · exact (good_tk _ _ _ _).lt h.tk b e
  · rintro W W' H ⟨F, h, he⟩ hs hk
    exact ⟨F, ⟨h.tb.keep (hk T ((he T).2 (.inl rfl))), (good_tk _ _ _ _).keep h.tk hs (fun b hb => hk b ((he b).2 (.inr hb))), h.ne⟩, he⟩
/-- pairs beside both disks -/
def Qd (T K B R : Nat) (C : Nat → Cl) (D : Dsk) (N M : Nat) (Q : Asn) : Asn := star (PrA T B K R C N) (star (DkA B D) (star (RkA R D M) Q))
theorem good_qd (hQ : Good Q) : Good (Qd T K B R C D N M Q) := good_pr.star ((good_dk B D).star ((good_rk R D M).star hQ))
variable {w w0 w' : World}
/-- the tables' own call -/
theorem Sys.callP (h : Sys w0 w (Qd T K B R C D N M Q)) (hQ : Good Q) : ∃ F, Pr w T (dvB B) K R C N F ∧ ∀ w' F' C' N', Pr w' T (dvB B) K R C' N' F' → Ext (wi T F) w (wi T F') w' → Sys w0 w' (Qd T K B R C' D N' M Q) := by
  obtain ⟨F, ⟨G, hp, he⟩, _, hk⟩ := Sys.call h ((good_dk B D).star ((good_rk R D M).star hQ))
  have hF : F = wi T G := funext fun b => propext (he b)
  subst hF
  exact ⟨G, hp, fun w' F' C' N' h1 h2 => hk w' _ _ ⟨F', h1, fun _ => Iff.rfl⟩ h2⟩
/-- the program's disk's call -/
theorem Sys.callD (h : Sys w0 w (star (PrA T B K R C N) (star (DkA B D) Q))) (hQ : Good Q) : ∃ F, DkA B D w F ∧ (∀ b, F b → w0.heap.size ≤ b) ∧ ∀ w' F' D', DkA B D' w' F' → Ext F w F' w' → Sys w0 w' (star (PrA T B K R C N) (star (DkA B D') Q)) := by
  obtain ⟨F, hd, hl, hk⟩ := Sys.call (Sys.swap h) (good_pr.star hQ)
  exact ⟨F, hd, hl, fun w' F' D' h1 h2 => (hk w' F' _ h1 h2).swap⟩
/-- the document's disk's call -/
theorem Sys.callR {X Y : Asn} (h : Sys w0 w (star X (star Y (star (RkA R D M) Q)))) (hX : Good X) (hY : Good Y) (hQ : Good Q) : ∃ F, RkA R D M w F ∧ (∀ b, F b → w0.heap.size ≤ b) ∧ ∀ w' F' D' M', RkA R D' M' w' F' → Ext F w F' w' → Sys w0 w' (star X (star Y (star (RkA R D' M') Q))) := by
  obtain ⟨F, hd, hl, hk⟩ := Sys.call (Sys.third h) (hX.star (hY.star hQ))
  exact ⟨F, hd, hl, fun w' F' D' M' h1 h2 => (hk w' F' _ h1 h2).back2⟩
/-- the step that is played, in its block -/
def OpA (g : Nat) (xs : Array Value) : Asn := fun W H => W.heap[g]? = some (.cells xs 73 (0, 0)) ∧ ∀ b, H b ↔ b = g
theorem good_op (g : Nat) (xs : Array Value) : Good (OpA g xs) := by
  refine ⟨?_, ?_⟩
  · rintro W H ⟨h, he⟩ b hb; rw [(he b).1 hb]; exact (Array.getElem?_eq_some_iff.1 h).1
  · rintro W W' H ⟨h, he⟩ _ hk; exact ⟨by rw [hk g ((he g).2 rfl)]; exact h, he⟩
theorem star_in {X A1 A2 A3 : Asn} (h : star X (star A1 (star A2 (star A3 Q))) W H) : star A1 (star A2 (star A3 (star X Q))) W H :=
  star_mono (fun _ _ h => star_mono (fun _ _ h => star_swap h) (star_swap h)) (star_swap h)
theorem star_out {X A1 A2 A3 : Asn} (h : star A1 (star A2 (star A3 (star X Q))) W H) : star X (star A1 (star A2 (star A3 Q))) W H :=
  star_swap (star_mono (fun _ _ h => star_swap (star_mono (fun _ _ h => star_swap h) h)) h)
theorem Sys.enter (h : Sys w0 w (Qd T K B R C D N M Q)) (hQ : Good Q) (xs : Array Value) : Sys w0 (w.alloc (.cells xs 73)) (Qd T K B R C D N M (star (OpA w.heap.size xs) Q)) :=
  (Sys.new h (good_qd hQ) (Fc := fun b => b = w.heap.size) (X := OpA w.heap.size xs) ⟨heap_alloc_new w _, fun _ => Iff.rfl⟩ (fun b hb => by rw [hb]; exact Nat.le_refl _) ((Below.refl w.heap.size w).alloc (Nat.le_refl _) _)).mono (fun _ _ => star_in)
theorem Sys.leave {X : Asn} (h : Sys w0 w (Qd T K B R C D N M (star X Q))) : Sys w0 w (Qd T K B R C D N M Q) := (h.mono (fun _ _ => star_out)).drop
theorem Sys.opc {A1 A2 A3 : Asn} {g : Nat} {xs : Array Value} (h : Sys w0 w (star A1 (star A2 (star A3 (star (OpA g xs) Q))))) (j : Nat) (v : Value) (hj : xs[j]? = some v) : w.cell? ⟨g, j, none⟩ = some v := by
  obtain ⟨F, ⟨h, _⟩, _⟩ := Sys.first (h.mono (fun _ _ => star_out))
  rw [cell_of_row _ _ _ _ _ _ h]
  exact hj
theorem Sys.rp {X : Asn} (h : Sys w0 w (star (PrA T B K R C N) X)) : w.cell? ⟨K, 1, none⟩ = some (tp R) := by
  obtain ⟨F, ⟨G, h, _⟩, _⟩ := Sys.first h
  obtain ⟨cv, cl, ht, _⟩ := h.tk
  exact ht.cv0.2.1
theorem Sys.tabs {X : Asn} (h : Sys w0 w (star (PrA T B K R C N) X)) : Tb w T (dvB B) C ∧ ∃ F, TkA K R C N w F := by
  obtain ⟨F, ⟨G, h, _⟩, _⟩ := Sys.first h
  exact ⟨h.tb, G, h.tk⟩
theorem Sys.dk {X Y : Asn} (h : Sys w0 w (star X (star (DkA B D) Y))) : ∃ F, DkA B D w F := by
  obtain ⟨F, h, _⟩ := Sys.first (Sys.swap h)
  exact ⟨F, h⟩
theorem Sys.rk {X Y : Asn} (h : Sys w0 w (star X (star Y (star (RkA R D M) Q)))) : ∃ F, RkA R D M w F := by
  obtain ⟨F, h, _⟩ := Sys.first (Sys.third h)
  exact ⟨F, h⟩
end
end Go.Proofs.Ytogpgchfaalikaa
