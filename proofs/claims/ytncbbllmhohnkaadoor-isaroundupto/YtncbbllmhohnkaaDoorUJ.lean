import Derived.Test.YtncbbllmhohnkaaDoorUI
import Derived.Test.YtncbbllmhohnkaaDoorTF
namespace Go.Proofs.YtncbbllmhohnkaaDoor
open Go.RowKit
theorem info_str : ∃ i, Tryd.prog.info? 9 = some i ∧ i.zero = some (.string ⟨#[]⟩) ∧ i.size = 1 ∧ i.bytes = 16 := info_parts (by kernel_rfl)
def strs (ps : List Tx) : List Value := ps.map fun p => .string ⟨p.toArray⟩
theorem it_under {W W' : World} {B g : Nat} {s : ByteArray} {pos : Nat} (h : It W g s pos) (hb : Below B W W') (hg : g < B) : It W' g s pos := by
  show W'.heap[g]? = _
  rw [hb.block g hg]
  exact h
theorem ownTo {w : World} {base g : Nat} {e : TypeId} {v : Value} {n : Nat} {xs : List Value} {s : ByteArray} (q : Nat) (h : w.ownsRow base e 1 v n xs) (hg : g < base) : (World.itTo w g s q).ownsRow base e 1 v n xs := by
  obtain ⟨h1, h2 | ⟨k, cap, cur, h2, h3, h4, h5⟩⟩ := h
  · exact ⟨h1, .inl h2⟩
  · refine ⟨h1, .inr ⟨k, cap, cur, h2, h3, ?_, h5⟩⟩
    show (w.heap.setIfInBounds g _)[k]? = _
    rw [Array.getElem?_setIfInBounds, if_neg (by omega)]
    exact h4
/-- the piece between two places -/
theorem piece_eq {l : Tx} {f pos : Nat} (hf : f ≤ pos) (hp : pos < l.length) : l.drop f = ((l.take pos).drop f) ++ l[pos] :: l.drop (pos + 1) := by
  rw [← List.drop_eq_getElem_cons hp]
  conv => lhs; rw [← List.take_append_drop pos l]
  rw [List.drop_append]
  have : f - (l.take pos).length = 0 := by simp; omega
  rw [this, List.drop_zero]
theorem piece_no {l : Tx} {f pos : Nat} {m : UInt8} (h : ∀ j (hj : j < l.length), f ≤ j → j < pos → (l[j] == m) = false) : ∀ x ∈ (l.take pos).drop f, (x == m) = false := by
  intro x hx
  obtain ⟨k, hk, rfl⟩ := List.getElem_of_mem hx
  simp only [List.length_drop, List.length_take] at hk
  have := h (f + k) (by omega) (by omega) (by omega)
  simpa using this
section
variable (w : World)
set_option maxRecDepth 100000 in
set_option maxHeartbeats 1000000 in
theorem cutAll_any (l : Tx) (m : UInt8) (hm : m.toNat < 128) (hl : l.length ≤ 16384) : Calls Tryd.prog 38 #[.string ⟨l.toArray⟩, .int .i32 (m.toNat : Nat)] w fun e w' => ∃ v, e = .returned v ∧ w'.ownsRow (w.heap.size + 1) 9 1 v (splitT m l).length (strs (splitT m l)) ∧ Below w.heap.size w w' := by
  obtain ⟨i9, hi, hz, hs, hb⟩ := info_str
  go_enter Tryd.func38, Tryd.ntmps38
  go_upto_region 4 with fail
  go_loopw [5, 6] (fun v u wr => ∃ (pos f : Nat) (ps : List Tx), u = .int .i64 (f : Int) ∧ f ≤ pos ∧ pos ≤ l.length ∧ ps.length ≤ f ∧ splitT m l = ps ++ splitT m (l.drop f) ∧ (∀ j (hj : j < l.length), f ≤ j → j < pos → (l[j] == m) = false) ∧ wr.ownsRow (w.heap.size + 1) 9 1 v ps.length (strs ps) ∧ It wr w.heap.size ⟨l.toArray⟩ pos ∧ Below w.heap.size w wr ∧ w.heap.size + 1 ≤ wr.heap.size) (fun _ _ wr => l.length - itPos wr w.heap.size)
  case atStart => exact ⟨0, 0, [], rfl, by omega, by omega, by simp, rfl, fun j _ _ h => by omega, ⟨rfl, .inl ⟨rfl, rfl⟩⟩, heap_alloc_last _ _, bel1 _ _, by simp [World.iter]⟩
  case round =>
  obtain ⟨pos, f, ps, rfl, hf, hp, hpl, hsp, hno, hO, hI, hB, hsz⟩ := hrel
  obtain ⟨au, cu, rfl⟩ := own_shape hO
  by_cases hlt : pos < l.length
  · obtain ⟨c, q, nx, hq, hql, hc⟩ := it_step (P := Tryd.prog) hI hlt
    have HI := hide (it_to hI q)
    have HB := hide (it_below (s := ⟨l.toArray⟩) hB (Nat.le_refl _) q)
    have HO := hide (ownTo (s := ⟨l.toArray⟩) q hO (Nat.lt_succ_self _))
    have HP := hide (it_pos hI)
    have HN := hide hno
    have HSp := hide hsp
    have hsz2 : w.heap.size + 1 ≤ (World.itTo wr w.heap.size ⟨l.toArray⟩ q).heap.size := by rw [itTo_size]; exact hsz
    have HC := hide hc
    clear hc hI hB hno hO hsp
    generalize World.itTo wr w.heap.size ⟨l.toArray⟩ q = W at *
    by_cases hcm : c = m.toNat
    · have HQ : Hid (q = pos + 1 ∧ l[pos] = m) := hide (by
        rcases HC.out with ⟨_, h1, h2⟩ | ⟨h1, _⟩
        · exact ⟨h2, UInt8.toNat_inj.1 (h1.symm.trans hcm)⟩
        · omega)
      have HP2 : Hid (splitT m l = (ps ++ [(l.take pos).drop f]) ++ splitT m (l.drop (pos + 1))) := hide (by
        rw [HSp.out, piece_eq hf hlt, HQ.out.2, split_mark m _ _ (piece_no HN.out)]
        simp)
      have e1 := ext_mk l f pos
      have hcm2 : ((c : Int) == (m.toNat : Int)) = true := by simp; omega
      clear HC HSp hcm
      go_upto_region 8 with (at_builtin; refine wpList_append_own _ rfl _ _ 69 rfl (w.heap.size + 1) 9 i9 (.string ⟨#[]⟩) 1 16 Tryd.underlying69 hi hz hs hb rfl (by decide) _ _ _ rfl (HO.out.alloc _) ⟨_, 0, none⟩ 1 1 [.string ⟨((l.take pos).drop f).toArray⟩] rfl rfl (cell_one_new _ _ _) (by simp [Value.oneCell']) (by unfold maxLen; omega) (by omega) (by simp; omega) ?_; intro v2 w2 ho2 hg2 _; obtain ⟨a2, c2, rfl⟩ := own_shape ho2)
      have HO2 : Hid (w2.ownsRow (w.heap.size + 1) 9 1 (.slice a2 (ps.length + 1) c2) (ps ++ [(l.take pos).drop f]).length (strs (ps ++ [(l.take pos).drop f]))) := hide (by simpa [strs] using ho2)
      have HBx : Hid (Below (w.heap.size + 1) W w2) := hide (((Below.refl _ W).alloc hsz2 _).grown hg2 (by simp; omega) (fun j hj => (HO.out.lt j hj).1))
      have HI2 := hide (it_under HI.out HBx.out (Nat.lt_succ_self _))
      have HB2 := hide (HB.out.trans (HBx.out.mono (Nat.le_succ _)))
      have hsz3 := Nat.le_trans hsz2 HBx.out.size
      clear ho2 hg2 HO HI HB HBx
      go_wp2
      refine ⟨⟨q, pos + 1, ps ++ [(l.take pos).drop f], by simp, by have := HQ.out.1; omega, hql, by simp; omega, HP2.out, fun j hj h1 h2 => by have := HQ.out.1; omega, HO2.out, HI2.out, HB2.out, hsz3⟩, ?_⟩
      rw [it_pos HI2.out, HP.out]
      omega
    · have hcm2 : ((c : Int) == (m.toNat : Int)) = false := by simp; omega
      have HN2 : Hid (∀ j (hj : j < l.length), f ≤ j → j < q → (l[j] == m) = false) := hide (fun j hj h1 h2 => by
        by_cases hjp : j < pos
        · exact HN.out j hj h1 hjp
        · rcases HC.out with ⟨_, h3, h4⟩ | ⟨_, _, h3⟩
          · obtain rfl : j = pos := by omega
            rw [beq_eq_false_iff_ne]
            intro e
            exact hcm (by rw [h3, e])
          · have h5 := h3 j hj (by omega) h2
            rw [beq_eq_false_iff_ne]
            intro e
            rw [e] at h5
            omega)
      clear HC HN hcm
      go_wp2
      refine ⟨⟨q, f, ps, rfl, by omega, hql, hpl, HSp.out, HN2.out, HO.out, HI.out, HB.out, hsz2⟩, ?_⟩
      rw [it_pos HI.out, HP.out]
      omega
  · have nx := it_stop (P := Tryd.prog) hI hlt
    obtain rfl : pos = l.length := by omega
    have HB := hide hB
    have HO := hide hO
    have HSe : Hid (splitT m l = ps ++ [l.drop f]) := hide (by
      rw [hsp, split_end m (l.drop f) (fun x hx => by
        have := piece_no (l := l) (f := f) (pos := l.length) hno
        rw [List.take_length] at this
        exact this x hx)])
    have e1 := ext_mk l f l.length
    rw [List.take_length] at e1
    clear hI hB hno hO hsp
    go_wp2_with (at_builtin; refine wpList_append_own _ rfl _ _ 69 rfl (w.heap.size + 1) 9 i9 (.string ⟨#[]⟩) 1 16 Tryd.underlying69 hi hz hs hb rfl (by decide) _ _ _ rfl (HO.out.alloc _) ⟨_, 0, none⟩ 1 1 [.string ⟨(l.drop f).toArray⟩] rfl rfl (cell_one_new _ _ _) (by simp [Value.oneCell']) (by unfold maxLen; omega) (by omega) (by simp; omega) ?_; intro v2 w2 ho2 hg2 _; obtain ⟨a2, c2, rfl⟩ := own_shape ho2)
    have HO2 : Hid (w2.ownsRow (w.heap.size + 1) 9 1 (.slice a2 (ps.length + 1) c2) (splitT m l).length (strs (splitT m l))) := hide (by rw [HSe.out]; simpa [strs] using ho2)
    have HBx : Hid (Below (w.heap.size + 1) wr w2) := hide (((Below.refl _ wr).alloc hsz _).grown hg2 (by simp; omega) (fun j hj => (HO.out.lt j hj).1))
    have HB2 := hide (HB.out.trans (HBx.out.mono (Nat.le_succ _)))
    clear ho2 hg2 HO HB HBx
    go_wp2
    go_ret
    exact ⟨_, rfl, HO2.out, HB2.out⟩
end
end Go.Proofs.YtncbbllmhohnkaaDoor
