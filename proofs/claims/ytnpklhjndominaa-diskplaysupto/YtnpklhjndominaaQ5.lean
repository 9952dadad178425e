import Derived.Test.YtnpklhjndominaaQ4
namespace Go.Proofs.Ytnpklhjndominaa
open Go.RowKit

theorem copiedR_any (v : Value) (zs : List Nat) (w : World) (hv : Rd w v zs) (hl : zs.length ≤ 1048576) :
    Calls Try.prog 12 #[v] w fun e w' => ∃ r, e = .returned r ∧ Ow w' w.heap.size r zs ∧ Below w.heap.size w w' := by
  obtain ⟨i5, hi, hz, hs, hb⟩ := info5'
  rcases hv with ⟨rfl, rfl⟩ | ⟨x, cap, rfl, hc⟩
  · go_enter Try.func12, Try.ntmps12
    go_wp2_with (at_builtin; refine wpList_append_own_none rfl _ _ 27 rfl w.heap.size 5 i5 1 Try.underlying27 hi _ 0 [] rfl (World.ownsRow_nil _ _ _ _) rfl ?_)
    go_ret
    exact ⟨_, rfl, World.ownsRow_nil _ _ _ _, Below.refl _ _⟩
  · have HC : Hid _ := hc
    clear hc
    go_enter Try.func12, Try.ntmps12
    go_wp2_with (at_builtin; refine wpList_append_own _ rfl _ _ 27 rfl w.heap.size 5 i5 (.int .u8 0) 1 1 Try.underlying27 hi hz hs hb rfl (by decide) _ 0 [] rfl (World.ownsRow_nil _ _ _ _) x zs.length cap (zs.map By) rfl ?c0 ?c1 ?c2 ?c3 ?c4 ?c5 ?_)
    case c0 => simp
    case c1 => exact HC.out
    case c2 => exact By_one zs
    case c3 => unfold maxLen; omega
    case c4 => omega
    case c5 => exact Nat.le_refl _
    intro r w1 hown hg _
    go_wp2
    go_ret
    refine ⟨_, rfl, ?_, grown_below hg rfl⟩
    simpa [Ow] using hown
/-- append to a row of the call's own, as one operation -/
theorem oper_append {P : Program} {o : Oper} {a : Act} {w : World} {K : Act → World → Prop} {Q : Exit → Act → World → Prop}
    (s x : Operand) (t : TypeId) (hop : o.op = Op.call { callee := Callee.builtin Builtin.append, args := #[s, x], argTypes := #[t, t] })
    (base : Nat) (e : TypeId) (i : TypeInfo) (z : Value) (size bytes : Nat) (h1 : P.underlying t = some (.slice e)) (h2 : P.info? e = some i) (h3 : i.zero = some z) (h4 : i.size = size) (h5 : i.bytes = bytes) (h6 : z.cells.size = size) (h7 : 0 < size)
    (v : Value) (n : Nat) (xs : List Value) (hs : a.eval s = v) (hown : w.ownsRow base e size v n xs)
    (ad : Addr) (m c : Nat) (news : List Value) (hx : a.eval x = .slice (some ad) m c) (hn : news.length = m * size) (hc : ∀ j u, news[j]? = some u → w.cell? (ad.add j) = some u) (h1c : ∀ u ∈ news, u.oneCell' = true)
    (b1 : n + m ≤ maxLen) (b2 : (n + m) * bytes ≤ 140737488355328) (hbase : base ≤ w.heap.size)
    (hK : ∀ v' w', w'.ownsRow base e size v' (n + m) (xs ++ news) → w.grownBy w' v.ownBlock → (v'.ownBlock = v.ownBlock ∨ v'.ownBlock = some w.heap.size) → K (a.put o.dst v') w') : Oper.wp P o a w K Q := by
  obtain ⟨v', w', hr, r2, r3, _, r5⟩ := run_append_own_at (P := P) w base t o.type e i z size bytes h1 h2 h3 h4 h5 h6 h7 v n xs hown ad m c news hn hc h1c b1 b2 hbase
  unfold Oper.wp execOp
  simp only [hop, resolve, invoke, builtin, Sem.run_bind, Sem.run_pure, Result.andThen_ok, List.map_toArray, List.map_cons, List.map_nil, hs, hx, hr]
  exact hK v' w' r2 r3 r5
theorem infoRec : ∃ i, Try.prog.info? 51 = some i ∧ i.zero = some (.agg #[.int .i64 0, .int .i64 0, .slice none 0 0]) ∧ i.size = 3 ∧ i.bytes = 40 := info_parts (by kernel_rfl)
theorem RecsAt.wide {w : World} {v : Value} {rl : List Rc} {ds : List Value} {G G' : Nat → Prop} (h : RecsAt w v rl ds G) (hG : ∀ b, G b → G' b) : RecsAt w v rl ds G' :=
  ⟨h.len, h.row, fun i x hx => by obtain ⟨q1, q2, d, q3, q4, q5⟩ := h.dat i x hx; exact ⟨q1, q2, d, q3, q4, fun b hb => hG b (q5 b hb)⟩⟩
/-- one record more -/
theorem RecsAt.app {W0 W' : World} {v cv2 vd : Value} {rl : List Rc} {ds : List Value} {G : Nat → Prop} {x : Rc} (h : RecsAt W0 v rl ds G) (ho : W'.ownsRow 0 51 3 cv2 (rl.length + 1) (encRs rl ds ++ encR x.1 x.2.1 vd)) (hk : ∀ b, G b → W'.heap[b]? = W0.heap[b]?) (hs : x.1 < 1024) (hx : Rcs x) (hd : Rd W' vd x.2.2) : RecsAt W' cv2 (rl ++ [x]) (ds ++ [vd]) (fun b => G b ∨ vd.ownBlock = some b) := by
  refine ⟨by rw [List.length_append, List.length_append, h.len]; rfl, by rw [encRs_snoc _ _ _ _ h.len, List.length_append]; exact ho, fun i y hy => ?_⟩
  by_cases hi : i < rl.length
  · rw [List.getElem?_append_left hi] at hy
    obtain ⟨q1, q2, d, q3, q4, q5⟩ := h.dat i y hy
    exact ⟨q1, q2, d, by rw [List.getElem?_append_left (by rw [h.len]; exact hi)]; exact q3, rd_keep q4 (fun b hb' => hk b (q5 b hb')), fun b hb' => .inl (q5 b hb')⟩
  · have hil := (List.getElem?_eq_some_iff.1 hy).1
    simp at hil
    obtain rfl : i = rl.length := by omega
    simp at hy
    subst hy
    exact ⟨hs, hx, vd, by rw [← h.len]; simp, hd, fun b hb' => .inr hb'⟩
theorem wput {W0 W1 W3 : World} {R N : Nat} {lv wv cv2 vd : Value} {rl : List Rc} {ds es : List Value} {G F : Nat → Prop} {D : Dsk} {o : Obj} {s : Nat} {zs : List Nat} (hk : RkAt W0 R lv wv rl ds es G D) (hn : rl.length ≤ N) (he : ∀ b, F b ↔ b = R ∨ lv.ownBlock = some b ∨ wv.ownBlock = some b ∨ G b)
    (hb : Below W0.heap.size W0 W1) (hvd : Ow W1 W0.heap.size vd zs) (hz : Sec zs) (hs : s < 1024) (ho : W3.ownsRow 0 51 3 cv2 (D.c.length + 1) (encRs (lf D.c) es ++ encR s 0 vd)) (hg : (W1.alloc o).grownBy W3 wv.ownBlock) (hloc : cv2.ownBlock = wv.ownBlock ∨ cv2.ownBlock = some (W1.alloc o).heap.size) :
    ∃ F', RkA R (D.put s zs) N (W3.setCell ⟨R, 1, none⟩ cv2) F' ∧ Ext F W0 F' (W3.setCell ⟨R, 1, none⟩ cv2) := by
  have hRl := hk.lt
  have hs01 := hb.size
  have hsA : (W1.alloc o).heap.size = W1.heap.size + 1 := by simp
  have hs3 := hg.size
  have hlvl : ∀ b, lv.ownBlock = some b → b < W0.heap.size := fun b e => ownsRow_lt hk.lan.row e
  have hwvl : ∀ b, wv.ownBlock = some b → b < W0.heap.size := fun b e => ownsRow_lt hk.wai.row e
  have hgd : ∀ b, vd.ownBlock = some b → W0.heap.size ≤ b ∧ b < W1.heap.size := fun b e => World.ownsRow.lt hvd b e
  have old : ∀ b, b < W0.heap.size → wv.ownBlock ≠ some b → W3.heap[b]? = W0.heap[b]? := fun b hb0 hne => by
    rw [hg.block b (by omega) (fun e => hne e.symm), Below.heap_alloc _ _ _ (by omega)]; exact hb.block b hb0
  have new : ∀ b, vd.ownBlock = some b → W3.heap[b]? = W1.heap[b]? := fun b e => by
    have := hgd b e
    rw [hg.block b (by omega) (fun e' => by have := hwvl b e'.symm; omega), Below.heap_alloc _ _ _ (by omega)]
  have hR2 : cv2.ownBlock ≠ some R := fun e => by
    rcases hloc with h | h
    · exact hk.nR.2.1 (h ▸ e)
    · rw [h] at e; simp at e; omega
  have set : ∀ b, b ≠ R → (W3.setCell ⟨R, 1, none⟩ cv2).heap[b]? = W3.heap[b]? := fun b hne => heap_setCell_other _ _ _ _ hne
  refine ⟨fun b => b = R ∨ lv.ownBlock = some b ∨ cv2.ownBlock = some b ∨ G b ∨ vd.ownBlock = some b, ⟨lv, cv2, rl, ds, es ++ [vd], fun b => G b ∨ vd.ownBlock = some b, ⟨?_, ?_, ?_, ⟨hk.nR.1, hR2, ?_⟩, ?_, ?_, hk.med, hk.lft⟩, hn, fun b => Iff.rfl⟩, ⟨⟨?_, ?_, ?_, ?_, ?_⟩, ?_⟩⟩
  · have h1 := hk.top
    rw [← old R hRl hk.nR.2.1] at h1
    rw [heap_setCell_same _ R 1 _ _ cv2 h1]; rfl
  · refine (hk.lan.keep (fun b hb' => ?_)).wide (fun b hb' => .inl hb')
    rcases hb' with e | e
    · rw [set b (fun e' => hk.nR.1 (e' ▸ e)), old b (hlvl b e) (hk.nL b e)]
    · rw [set b (fun e' => hk.nR.2.2 (e' ▸ e)), old b (hk.nG b e).2.2 (hk.nG b e).2.1]
  · show RecsAt _ cv2 (lf (D.c ++ [(s, zs)])) _ _
    rw [lf_app]
    refine hk.wai.app (x := (s, 0, zs)) (by rw [lf_len]; exact ownsRow_keep ho (fun b hb' => set b (fun e => hR2 (e ▸ hb')))) (fun b hb' => ?_) hs ⟨by show 0 + zs.length ≤ 128; rw [hz.1]; omega, hz.2⟩ (rd_keep hvd.rd (fun b hb' => ?_))
    · rw [set b (fun e' => hk.nR.2.2 (e' ▸ hb')), old b (hk.nG b hb').2.2 (hk.nG b hb').2.1]
    · have := hgd b hb'
      rw [set b (by omega), new b hb']
  · rintro (e | e)
    · exact hk.nR.2.2 e
    · have := hgd R e; omega
  · intro b hb'
    have hsz : (W3.setCell ⟨R, 1, none⟩ cv2).heap.size = W3.heap.size := by simp [World.setCell]
    rcases hb' with e | e
    · refine ⟨(hk.nG b e).1, fun e2 => ?_, by have := (hk.nG b e).2.2; omega⟩
      rcases hloc with h | h
      · exact (hk.nG b e).2.1 (h ▸ e2)
      · rw [h] at e2; simp at e2; have := (hk.nG b e).2.2; omega
    · have := hgd b e
      refine ⟨fun e2 => by have := hlvl b e2; omega, fun e2 => ?_, by omega⟩
      rcases hloc with h | h
      · have := hwvl b (h ▸ e2); omega
      · rw [h] at e2; simp at e2; omega
  · intro b e e2
    rcases hloc with h | h
    · exact hk.nL b e (h ▸ e2)
    · rw [h] at e2; simp at e2; have := hlvl b e; omega
  · exact hg.os.trans hb.os
  · exact hg.tape.trans hb.tape
  · exact hg.output.trans hb.output
  · simp [World.setCell]; omega
  · intro b hb0 hf
    rw [set b (fun e => hf ((he b).2 (.inl e))), old b hb0 (fun e => hf ((he b).2 (.inr (.inr (.inl e)))))]
  · rintro b (e | e | e | e | e)
    · exact .inl ((he b).2 (.inl e))
    · exact .inl ((he b).2 (.inr (.inl e)))
    · rcases hloc with h | h
      · exact .inl ((he b).2 (.inr (.inr (.inl (h ▸ e)))))
      · rw [h] at e; simp at e; exact .inr (by omega)
    · exact .inl ((he b).2 (.inr (.inr (.inr e))))
    · exact .inr (hgd b e).1
theorem eput {W0 W1 W3 : World} {R N : Nat} {lv wv cv2 vd : Value} {rl : List Rc} {ds es : List Value} {G F : Nat → Prop} {D : Dsk} {o : Obj} {s pa : Nat} {zs : List Nat} (hk : RkAt W0 R lv wv rl ds es G D) (hn : rl.length ≤ N) (he : ∀ b, F b ↔ b = R ∨ lv.ownBlock = some b ∨ wv.ownBlock = some b ∨ G b)
    (hb : Below W0.heap.size W0 W1) (hvd : Ow W1 W0.heap.size vd zs) (hz : Rcs (s, pa, zs)) (hs : s < 1024) (ho : W3.ownsRow 0 51 3 cv2 (rl.length + 1) (encRs rl ds ++ encR s pa vd)) (hg : (W1.alloc o).grownBy W3 lv.ownBlock) (hloc : cv2.ownBlock = lv.ownBlock ∨ cv2.ownBlock = some (W1.alloc o).heap.size) :
    ∃ F', RkA R (D.edit s (splice (D.M s) pa zs)) (N + 1) (W3.setCell ⟨R, 0, none⟩ cv2) F' ∧ Ext F W0 F' (W3.setCell ⟨R, 0, none⟩ cv2) := by
  have hRl := hk.lt
  have hs01 := hb.size
  have hsA : (W1.alloc o).heap.size = W1.heap.size + 1 := by simp
  have hs3 := hg.size
  have hlvl : ∀ b, lv.ownBlock = some b → b < W0.heap.size := fun b e => ownsRow_lt hk.lan.row e
  have hwvl : ∀ b, wv.ownBlock = some b → b < W0.heap.size := fun b e => ownsRow_lt hk.wai.row e
  have hgd : ∀ b, vd.ownBlock = some b → W0.heap.size ≤ b ∧ b < W1.heap.size := fun b e => World.ownsRow.lt hvd b e
  have old : ∀ b, b < W0.heap.size → lv.ownBlock ≠ some b → W3.heap[b]? = W0.heap[b]? := fun b hb0 hne => by
    rw [hg.block b (by omega) (fun e => hne e.symm), Below.heap_alloc _ _ _ (by omega)]; exact hb.block b hb0
  have new : ∀ b, vd.ownBlock = some b → W3.heap[b]? = W1.heap[b]? := fun b e => by
    have := hgd b e
    rw [hg.block b (by omega) (fun e' => by have := hlvl b e'.symm; omega), Below.heap_alloc _ _ _ (by omega)]
  have hR2 : cv2.ownBlock ≠ some R := fun e => by
    rcases hloc with h | h
    · exact hk.nR.1 (h ▸ e)
    · rw [h] at e; simp at e; omega
  have set : ∀ b, b ≠ R → (W3.setCell ⟨R, 0, none⟩ cv2).heap[b]? = W3.heap[b]? := fun b hne => heap_setCell_other _ _ _ _ hne
  refine ⟨fun b => b = R ∨ cv2.ownBlock = some b ∨ wv.ownBlock = some b ∨ G b ∨ vd.ownBlock = some b, ⟨cv2, wv, rl ++ [(s, pa, zs)], ds ++ [vd], es, fun b => G b ∨ vd.ownBlock = some b, ⟨?_, ?_, ?_, ⟨hR2, hk.nR.2.1, ?_⟩, ?_, ?_, ?_, hk.lft⟩, by rw [List.length_append]; simp; omega, fun b => Iff.rfl⟩, ⟨⟨?_, ?_, ?_, ?_, ?_⟩, ?_⟩⟩
  · have h1 := hk.top
    rw [← old R hRl hk.nR.1] at h1
    rw [heap_setCell_same _ R 0 _ _ cv2 h1]; rfl
  · refine hk.lan.app (x := (s, pa, zs)) (ownsRow_keep ho (fun b hb' => set b (fun e => hR2 (e ▸ hb')))) (fun b hb' => ?_) hs hz (rd_keep hvd.rd (fun b hb' => ?_))
    · rw [set b (fun e' => hk.nR.2.2 (e' ▸ hb')), old b (hk.nG b hb').2.2 (hk.nG b hb').1]
    · have := hgd b hb'
      rw [set b (by omega), new b hb']
  · refine (hk.wai.keep (fun b hb' => ?_)).wide (fun b hb' => .inl hb')
    rcases hb' with e | e
    · rw [set b (fun e' => hk.nR.2.1 (e' ▸ e)), old b (hwvl b e) (fun e' => hk.nL b e' e)]
    · rw [set b (fun e' => hk.nR.2.2 (e' ▸ e)), old b (hk.nG b e).2.2 (hk.nG b e).1]
  · rintro (e | e)
    · exact hk.nR.2.2 e
    · have := hgd R e; omega
  · intro b hb'
    have hsz : (W3.setCell ⟨R, 0, none⟩ cv2).heap.size = W3.heap.size := by simp [World.setCell]
    rcases hb' with e | e
    · refine ⟨fun e2 => ?_, (hk.nG b e).2.1, by have := (hk.nG b e).2.2; omega⟩
      rcases hloc with h | h
      · exact (hk.nG b e).1 (h ▸ e2)
      · rw [h] at e2; simp at e2; have := (hk.nG b e).2.2; omega
    · have := hgd b e
      refine ⟨fun e2 => ?_, fun e2 => by have := hwvl b e2; omega, by omega⟩
      rcases hloc with h | h
      · have := hlvl b (h ▸ e2); omega
      · rw [h] at e2; simp at e2; omega
  · intro b e2 e
    rcases hloc with h | h
    · exact hk.nL b (h ▸ e2) e
    · rw [h] at e2; simp at e2; have := hwvl b e; omega
  · intro s' hs'
    show upd D.M s (splice (D.M s) pa zs) s' = _
    rw [playR_snoc]
    unfold upd; split
    · rw [hk.med s hs]
    · exact hk.med s' hs'
  · exact hg.os.trans hb.os
  · exact hg.tape.trans hb.tape
  · exact hg.output.trans hb.output
  · simp [World.setCell]; omega
  · intro b hb0 hf
    rw [set b (fun e => hf ((he b).2 (.inl e))), old b hb0 (fun e => hf ((he b).2 (.inr (.inl e))))]
  · rintro b (e | e | e | e | e)
    · exact .inl ((he b).2 (.inl e))
    · rcases hloc with h | h
      · exact .inl ((he b).2 (.inr (.inl (h ▸ e))))
      · rw [h] at e; simp at e; exact .inr (by omega)
    · exact .inl ((he b).2 (.inr (.inr (.inl e))))
    · exact .inl ((he b).2 (.inr (.inr (.inr e))))
    · exact .inr (hgd b e).1
end Go.Proofs.Ytnpklhjndominaa
