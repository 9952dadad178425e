import Derived.Test.YtnpklhjndominaaC7
import Derived.Great.FillDense
namespace Go.Proofs.Ytnpklhjndominaa
open Go.RowKit

def Z77 : Array Value := (Value.int .i64 0 :: List.replicate 128 (Value.int .u8 0)).toArray
theorem t77_zero : Try.t62.zero = some (.agg Z77) := by
  unfold Try.t62 Z77
  simp only [rep_one, rep_cons, rep_app, Nat.reduceAdd]
  rfl
theorem zero77 (w : World) : (zeroValue 62).run Try.prog w = .ok (.agg Z77) w := by
  unfold zeroValue
  rw [Sem.run_bind, Try.typeInfo62]
  simp [t77_zero]
theorem Z77_size : Z77.size = 129 := by
  unfold Z77
  rw [List.size_toArray, List.length_cons, List.length_replicate]
theorem Z77_one : Z77.all (·.oneCell') = true := by
  rw [Array.all_eq_true_iff_forall_mem]
  intro v hv
  simp [Z77] at hv
  rcases hv with rfl | rfl <;> rfl
theorem info77 : ∃ i, Try.prog.info? 62 = some i ∧ i.zero = some (.agg Z77) ∧ i.size = 129 ∧ i.bytes = 136 := by
  refine ⟨Try.t62, Try.type62, t77_zero, rfl, rfl⟩
theorem size77 : (Try.prog.info? 62).map (·.size) = some 129 := by obtain ⟨i, h1, _, h2, _⟩ := info77; rw [h1]; simp [h2]
/-- append to a row of the call's own, as one step of a region that draws, with its place -/
theorem step_append_at {P : Program} {ops : Array Oper} {o : Oper} {a : Act} {w : World} {K : Act → World → Prop} {Q : Exit → Act → World → Prop} {E : Prop}
    (hg : o.guard = none) (s x : Operand) (t : TypeId) (hop : o.op = Op.call { callee := Callee.builtin Builtin.append, args := #[s, x], argTypes := #[t, t] })
    (base : Nat) (e : TypeId) (i : TypeInfo) (z : Value) (size bytes : Nat) (h1 : P.underlying t = some (.slice e)) (h2 : P.info? e = some i) (h3 : i.zero = some z) (h4 : i.size = size) (h5 : i.bytes = bytes) (h6 : z.cells.size = size) (h7 : 0 < size)
    (v : Value) (n : Nat) (xs : List Value) (hs : a.eval s = v) (hown : w.ownsRow base e size v n xs)
    (ad : Addr) (m c : Nat) (news : List Value) (hx : a.eval x = .slice (some ad) m c) (hn : news.length = m * size) (hc : ∀ j u, news[j]? = some u → w.cell? (ad.add j) = some u) (h1c : ∀ u ∈ news, u.oneCell' = true)
    (b1 : n + m ≤ maxLen) (b2 : (n + m) * bytes ≤ 140737488355328) (hbase : base ≤ w.heap.size)
    (hK : ∀ v' w', w'.ownsRow base e size v' (n + m) (xs ++ news) → w.grownBy w' v.ownBlock → (v'.ownBlock = v.ownBlock ∨ v'.ownBlock = some w.heap.size) → K (a.put o.dst v') w') :
    if Region.wanted o (yielded ops a.tmps) = true then Oper.wp P o a w K Q else E := by
  have hw : Region.wanted o (yielded ops a.tmps) = true := by simp [Region.wanted, hg]
  rw [if_pos hw]
  obtain ⟨v', w', hr, r2, r3, _, r5⟩ := run_append_own_at (P := P) w base t o.type e i z size bytes h1 h2 h3 h4 h5 h6 h7 v n xs hown ad m c news hn hc h1c b1 b2 hbase
  unfold Oper.wp execOp
  simp only [hop, resolve, invoke, builtin, Sem.run_bind, Sem.run_pure, Result.andThen_ok, List.map_toArray, List.map_cons, List.map_nil, hs, hx, hr]
  exact hK v' w' r2 r3 r5
theorem fold77 (R : List Value) (hR : R.length = 129) (Z : Array Value) : List.foldl (fun cs x => cs.setIfInBounds x.snd x.fst) (Array.map (fun x => Z[x % Z.size]!) (Array.range 129)) R.zipIdx = R.toArray := by
  have := Great.fill_whole (s := 129) (by decide) [Value.agg R.toArray] ((Array.range 129).map (Z[· % Z.size]!)) (by intro v hv; simp at hv; subst hv; simp [Value.cells, hR]) (by simp)
  simp [Instr.fill, Value.cells, hR] at this
  exact this
theorem row_eq {s : Nat} {zs : List Nat} (h : zs.length = 128) : splice (Z77.toList.set 0 (Value.int .i64 (s : Int))) 1 (zs.map By) = enc1 (s, zs) := by
  have e : Z77.toList.set 0 (Value.int .i64 (s : Int)) = Value.int .i64 (s : Int) :: List.replicate 128 (Value.int .u8 0) := rfl
  rw [e]
  unfold splice enc1
  rw [List.length_map, h]
  simp
theorem put_next {W w1 : World} {B : Nat} {cs : Array Value} {cv v' : Value} {D : Dsk} {F : Nat → Prop} {s : Nat} {zs : List Nat} (hD : DkAt W B cs cv D) (he : ∀ b, F b ↔ b = B ∨ cv.ownBlock = some b) (hs : s < 1024) (hz : Sec zs)
    (ho : w1.ownsRow 0 62 129 v' (D.c.length + 1) (encs D.c ++ enc1 (s, zs))) (hg : W.grownBy w1 cv.ownBlock) (hl : v'.ownBlock = cv.ownBlock ∨ v'.ownBlock = some W.heap.size) :
    w1.cell? ⟨B, 131072, none⟩ = some cv ∧ w1.frozen? ⟨B, 131072, none⟩ = false ∧ Hid (∃ F', DkA B (D.put s zs) (w1.setCell ⟨B, 131072, none⟩ v') F' ∧ Ext F W F' (w1.setCell ⟨B, 131072, none⟩ v')) := by
  have hB1 : w1.heap[B]? = some (.cells cs 45 (0, 0)) := by rw [hg.block B hD.lt (fun e => hD.ne e.symm)]; exact hD.top
  have hne : ∀ b, v'.ownBlock = some b → b ≠ B := by
    intro b hb e
    subst e
    rcases hl with h | h
    · exact hD.ne (by rw [← h, hb])
    · rw [hb] at h; have := hD.lt; simp at h; omega
  have hB := (he B).2 (.inl rfl)
  refine ⟨by rw [cell_of_row _ _ _ _ _ _ hB1]; exact hD.inn.cch, frozen_of_row _ _ _ _ _ hB1, fun b => b = B ∨ v'.ownBlock = some b, ⟨_, v', ⟨heap_setCell_same _ _ _ _ _ _ hB1, ?_, ?_, fun e => hne B e rfl, hD.ok.put hs hz⟩, fun _ => Iff.rfl⟩, ?_, ?_⟩
  · exact hD.inn.setCch hD.ok v' (D.c ++ [(s, zs)])
  · have := ownsRow_keep (w' := w1.setCell ⟨B, 131072, none⟩ v') ho (fun b hb => heap_setCell_other _ _ _ _ (hne b hb))
    simpa [Dsk.put, encs_snoc] using this
  · have hm : Mod F W w1 := ⟨hg.os, hg.tape, hg.output, hg.size, fun b hb hf => hg.block b hb (fun e => hf ((he b).2 (.inr e.symm)))⟩
    exact hm.setCell (.inl hB) _
  · rintro b (rfl | hb)
    · exact .inl hB
    · rcases hl with h | h
      · exact .inl ((he b).2 (.inr (by rw [← h, hb])))
      · rw [hb] at h; simp at h; right; omega
theorem step_put {ops : Array Oper} {o : Oper} {a : Act} {w : World} {K : Act → World → Prop} {Q : Exit → Act → World → Prop} {E : Prop} (hg : o.guard = none) (s x : Operand) (hop : o.op = Op.call { callee := Callee.builtin Builtin.append, args := #[s, x], argTypes := #[43, 43] })
    {B : Nat} {cs : Array Value} {cv : Value} {D : Dsk} {F : Nat → Prop} (hD : DkAt w B cs cv D) (he : ∀ b, F b ↔ b = B ∨ cv.ownBlock = some b) (hs : a.eval s = cv) (g : Nat) (hx : a.eval x = .slice (some ⟨g, 0, none⟩) 1 1) {R : List Value}
    (hrow : w.heap[g]? = some (.cells R.toArray 62 (0, 0))) {t : Nat} {zs : List Nat} (hR : enc1 (t, zs) = R) (ht : t < 1024) (hz : Sec zs) (hc : D.c.length < 1000000000)
    (hK : ∀ g' n cap' w4, w4.cell? ⟨B, 131072, none⟩ = some cv → w4.frozen? ⟨B, 131072, none⟩ = false → Hid (∃ F', DkA B (D.put t zs) (w4.setCell ⟨B, 131072, none⟩ (.slice (some ⟨g', 0, none⟩) n cap')) F' ∧ Ext F w F' (w4.setCell ⟨B, 131072, none⟩ (.slice (some ⟨g', 0, none⟩) n cap'))) →
      K (a.put o.dst (.slice (some ⟨g', 0, none⟩) n cap')) w4) : if Region.wanted o (yielded ops a.tmps) = true then Oper.wp Try.prog o a w K Q else E := by
  obtain ⟨i77, h1, h2, h3, h4⟩ := info77
  subst hR
  refine step_append_at hg s x 43 hop 0 62 i77 (.agg Z77) 129 136 Try.underlying43 h1 h2 h3 h4 Z77_size (by decide) cv D.c.length (encs D.c) hs hD.row ⟨g, 0, none⟩ 1 1 (enc1 (t, zs)) hx (by simp [enc1, hz.1]) ?_ (enc1_one _) (by unfold maxLen; omega) (by omega) (Nat.zero_le _) ?_
  · intro j u hu
    rw [add0, cell_of_row _ _ _ _ _ _ hrow]; simpa using hu
  · intro v' w4 ho hg4 hl
    obtain ⟨r1, r2, r3⟩ := put_next hD he ht hz ho hg4 hl
    obtain ⟨_, ⟨_, h0⟩ | ⟨g', cap', cur, hv', _⟩⟩ := ho
    · omega
    · subst hv'
      exact hK g' _ cap' w4 r1 r2 r3
attribute [-simp] Try.isAgg62 Try.sizeOf62 Try.typeInfo62 in
set_option maxRecDepth 100000 in
set_option maxHeartbeats 400000 in
theorem write_ok {B : Nat} {D : Dsk} {w : World} {F : Nat → Prop} (hd : DkA B D w F) (s : Nat) (v : Value) (zs : List Nat) (hs : s < 1024) (hv : Rd w v zs) (hz : Sec zs) (hnF : ∀ b, v.ownBlock = some b → ¬ F b)
    (hw : D.down = false) (hl : D.armed = true → D.left ≠ 0) (ha : D.acts < 1152921504606846976) (hc : D.c.length < 1000000000) :
    Calls Try.prog 14 #[dp B, .int .i64 (s : Int), v] w fun e w' => e = .returned (.int .i64 0) ∧ ∃ F', DkA B (D.acted.put s zs) w' F' ∧ Ext F w F' w' := by
  obtain ⟨ao, cap, rfl⟩ := hv.len
  rw [hz.1]
  rw [hz.1] at hv hnF
  have HD := hide hd
  have HV := hide hv
  have HZ := hide hz
  have h77 := zero77
  obtain ⟨Z, hZ⟩ : ∃ Z, Z77 = Z := ⟨_, rfl⟩
  have hZs := Z77_size
  have hne : ¬ Z = #[] := by intro e; rw [hZ, e] at hZs; simp at hZs
  rw [hZ] at h77 hZs
  have HZZ := hide hZ
  clear hd hv hz hZ
  go_enter Try.func14, Try.ntmps14
  go_wp2_with fail
  refine (outside_in s _ hs).mono ?_
  rintro e w0 ⟨rfl, rfl⟩
  go_wp2_with fail
  refine (act_ok HD.out hw hl ha).mono ?_
  rintro e w1 ⟨rfl, hd1, hx1⟩
  have H1 := hide hd1
  have HX1 := hide hx1
  clear hd1 hx1
  have HW := hide (heap_alloc_last w1 (Obj.cells Z 62))
  have hone : (Z.setIfInBounds 0 (Value.int .i64 (s : Int))).all (·.oneCell') = true := by
    rw [← HZZ.out]
    rw [Array.all_eq_true_iff_forall_mem]
    intro v hv
    rcases Array.mem_or_eq_of_mem_setIfInBounds hv with h | rfl
    · exact Array.all_eq_true_iff_forall_mem.1 Z77_one v h
    · rfl
  have hi77 : (Try.prog.info? 62).map (·.size) = some (Z.setIfInBounds 0 (Value.int .i64 (s : Int))).size := by
    rw [Array.size_setIfInBounds, hZs]; exact size77
  obtain ⟨x, hx⟩ : ∃ x, ao = some x := by
    rcases HV.out with ⟨h1, _⟩ | ⟨x, cp, h1, _⟩
    · simp at h1
    · simp at h1; exact ⟨x, h1.1⟩
  subst hx
  have HC : Hid (∀ j u, (zs.map By)[j]? = some u → w1.cell? (x.add j) = some u) := by
    rcases HV.out.mod HX1.out.mod hnF with ⟨h1, _⟩ | ⟨x', cp, h1, h2⟩
    · simp at h1
    · simp at h1; rw [h1.1]; exact h2
  go_wp2_with (first
    | (refine wpList_store_row rfl 62 _ _ rfl w1.heap.size (Z.setIfInBounds 0 (Value.int .i64 (s : Int))) rfl rfl 62 Z HW.out hi77 (by rw [Array.size_setIfInBounds]) hone ?_)
    | (refine wpList_copy_splice rfl _ _ 27 27 rfl 5 Try.underlying27 size5 (some ⟨w1.heap.size, 1, none⟩) (some x) 128 128 128 cap rfl rfl w1.heap.size 1 (Z.setIfInBounds 0 (Value.int .i64 (s : Int))).toList 62 ?c0 (zs.map By) ?c1 ?c2 ?c3 (By_one zs) w1.heap.size w1 (below_setRow ((Below.refl _ _).alloc (Nat.le_refl _) _) (Nat.le_refl _) _) (Nat.le_refl _) ?_))
  case c0 => rw [Array.toArray_toList]; exact setRow_heap _ _ _ _ _ _ HW.out
  case c1 => rw [List.length_map, HZ.out.1]; rfl
  case c2 =>
    intro _ j a ha'
    have h1 := HC.out j (By a) (by simp [ha'])
    have h2 := World.block_lt_of_cell? w1 _ h1
    rw [(below_setRow ((Below.refl _ _).alloc (Nat.le_refl _) _) (Nat.le_refl _) _).cell h2]; exact h1
  case c3 => rw [List.length_map, HZ.out.1, Array.length_toList, Array.size_setIfInBounds, hZs]; omega
  intro w3 hg3 hb3
  have hrow : w3.heap[w1.heap.size]? = some (.cells (enc1 (s, zs)).toArray 62 (0, 0)) := by
    have := hg3.out
    rw [← HZZ.out, row_eq HZ.out.1] at this; exact this
  have hrl : (enc1 (s, zs)).length = 129 := by simp [enc1, HZ.out.1]
  obtain ⟨R, hR⟩ : ∃ R, enc1 (s, zs) = R := ⟨_, rfl⟩
  have HR := hide hR
  rw [hR] at hrow hrl
  have HBB := hide hb3
  have hH1 := H1.out
  obtain ⟨cs, cv, hD1, he⟩ := hH1
  have hD := hD1.below hb3
  have hA : ∀ o, DkAt (w3.alloc o) B cs cv D.acted := fun o => hD.below ((Below.refl _ _).alloc (Nat.le_refl _) o)
  have HA := hide hA
  have HE := hide he
  have h5 := hD.cch
  have f5 := hD.frz 131072
  have ha5 : ∀ o, (w3.alloc o).cell? ⟨B, 131072, none⟩ = some cv := fun o => (hA o).cch
  obtain ⟨N, hN⟩ : ∃ N, N = 129 := ⟨_, rfl⟩
  have hagg := Try.isAgg62
  have hso : ∀ W, (sizeOf 62).run Try.prog W = .ok N W := by rw [hN]; exact Try.sizeOf62
  have hlc : (loadCellsFrom ⟨w1.heap.size, 0, none⟩ 0 N #[]).run Try.prog w3.drew = .ok R.toArray w3.drew := by
    have := run_loadCells_list (P := Try.prog) w3.drew ⟨w1.heap.size, 0, none⟩ R (fun j v hv => by rw [add0]; have := cell_of_row w3 w1.heap.size j _ _ _ hrow; rw [World.cell?_drew, this]; simpa using hv)
    rw [hrl] at this
    rw [hN]; exact this
  have hfo := fold77 R hrl Z
  rw [← hN] at hfo
  have hN1 : (129 = N) = True := by rw [hN]; simp
  have hN2 : ¬ N < 129 := by omega
  have hN3 : ¬ N = 0 := by omega
  have hN4 : ¬ 16777216 < N := by omega
  clear hN hD hA he hD1 hb3 hg3 hrow hR hZs hne HW hone hi77 HC HV hnF
  go_wp2
  go_region_law (refine step_put rfl (.tmp 29) (.tmp 31) rfl (HA.out _).drew HE.out (by simp [Act.eval]) w3.heap.size (by simp [Act.eval]) (heap_alloc_last _ _) HR.out hs HZ.out hc ?_; intro g' n4 cap' w4 k0 kf KN)
  all_goals clear hfo hlc hso hagg h77 hN1 hN2 hN3 hN4 ha5 h5 f5
  all_goals go_wp2
  all_goals go_ret
  all_goals
    obtain ⟨F', r1, r2⟩ := KN.out
    exact ⟨rfl, F', r1, (HX1.out.trans (Ext.of_below HBB.out)).trans ((Ext.of_below ((Below.refl _ _).alloc (Nat.le_refl _) _).drew).trans r2)⟩
end Go.Proofs.Ytnpklhjndominaa
