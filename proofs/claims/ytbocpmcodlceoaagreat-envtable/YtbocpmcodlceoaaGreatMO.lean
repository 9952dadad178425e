import Derived.Maps.AppendAt
import Derived.Test.YtbocpmcodlceoaaGreatMM
import Derived.Test.YtbocpmcodlceoaaGreatMN
namespace Go.Proofs.YtbocpmcodlceoaaGreat
open Go.ChangeShapes Go.WideShapes Go.ChangeAt Go.RowKit Go.Deep

/-- append to a row of the call's own, as one operation -/
theorem oper_append {P : Program} {o : Oper} {a : Act} {w : World} {K : Act → World → Prop} {Q : Exit → Act → World → Prop}
    (s x : Operand) (t : TypeId) (hop : o.op = Op.call { callee := Callee.builtin Builtin.append, args := #[s, x], argTypes := #[t, t] })
    (base : Nat) (e : TypeId) (i : TypeInfo) (z : Value) (size bytes : Nat) (h1 : P.underlying t = some (.slice e)) (h2 : P.info? e = some i) (h3 : i.zero = some z) (h4 : i.size = size) (h5 : i.bytes = bytes) (h6 : z.cells.size = size) (h7 : 0 < size)
    (v : Value) (n : Nat) (xs : List Value) (hs : a.eval s = v) (hown : w.ownsRow base e size v n xs)
    (ad : Addr) (m c : Nat) (news : List Value) (hx : a.eval x = .slice (some ad) m c) (hn : news.length = m * size) (hc : ∀ j u, news[j]? = some u → w.cell? (ad.add j) = some u) (h1c : ∀ u ∈ news, u.oneCell' = true)
    (b1 : n + m ≤ maxLen) (b2 : (n + m) * bytes ≤ 140737488355328) (hbase : base ≤ w.heap.size)
    (hK : ∀ v' w', w'.ownsRow base e size v' (n + m) (xs ++ news) → w.grownBy w' v.ownBlock → (v'.ownBlock = v.ownBlock ∨ v'.ownBlock = some w.heap.size) → K (a.put o.dst v') w') : Oper.wp P o a w K Q := by
  obtain ⟨v', w', hr, r2, r3, _, r5⟩ := run_append_own_at (P := P) w base t o.type e i z size bytes h1 h2 h3 h4 h5 h6 h7 v n xs hown ad m c news hn hc h1c b1 b2 hbase
  unfold Oper.wp execOp
  simp only [hop, resolve, invoke, builtin, Sem.run_bind, Sem.run_pure, Result.andThen_ok, List.map_toArray, List.map_cons, List.map_nil, hs, hx, hr]
  exact hK v' w' r2 r3 r5
theorem encW1_one (x : Rw) : ∀ u ∈ encW1 x, u.oneCell' = true := by
  intro u hu
  simp [encW1] at hu
  rcases hu with rfl | rfl | rfl | rfl | rfl | rfl | rfl | rfl | rfl | rfl | rfl | rfl | rfl | rfl | rfl | rfl | rfl | rfl | rfl | rfl | rfl | rfl | rfl <;> rfl
theorem infoRow : ∃ i, Tryz.prog.info? 85 = some i ∧ i.zero = some (.agg (encW1 (0, Er.nil)).toArray) ∧ i.size = 25 ∧ i.bytes = 160 := info_parts (by kernel_rfl)
/-- the same cells -/
theorem encW_same {K : List Rw} {i : Nat} {x y : Rw} (h : K[i]? = some x) (he : encW1 y = encW1 x) : encW (K.set i y) = encW K := by
  have := encW_sets (j := 0) (us := []) h (by simp) (y := y) he.symm
  exact this.symm
section
variable {rs : List (Option Er)} {K : List Rw} {last : Int}
theorem Ag.app (h : Ag rs K) {k : Nat} {e : Er} (hk : rs[k]? = some none) (hs : ∀ y ∈ K, y.2.se < e.se) : Ag (rs.set k (some e)) (K ++ [(k, e)]) := by
  have hkl := (List.getElem?_eq_some_iff.1 hk).1
  refine ⟨List.pairwise_append.2 ⟨h.srt, List.pairwise_singleton _ _, fun a ha b hb => ?_⟩, fun m x => ?_⟩
  · rw [List.mem_singleton] at hb; subst hb; exact hs a ha
  · rw [List.mem_append, List.mem_singleton, h.mem, List.getElem?_set]
    constructor
    · rintro (h1 | h1)
      · have hne : ¬ k = m := fun e1 => by subst e1; rw [hk] at h1; cases h1
        rw [if_neg hne]; exact h1
      · cases h1
        rw [if_pos rfl, if_pos hkl]
    · intro h1
      split at h1
      · rename_i e1; subst e1; cases h1; exact .inr rfl
      · exact .inl h1
theorem ff_is {k : Nat} (h1 : rs[k]? = some none) (h2 : ∀ j : Nat, j < k → ∃ r, rs[j]? = some (some r)) : ff rs = k := by
  rcases Nat.lt_trichotomy (ff rs) k with h | h | h
  · obtain ⟨r, hr⟩ := h2 _ h
    rw [ff_free (by have := (List.getElem?_eq_some_iff.1 h1).1; omega)] at hr
    cases hr
  · exact h
  · obtain ⟨x, hx⟩ := ff_held h
    rw [h1] at hx; cases hx
theorem ff_no (hl : rs.length = 16) (h2 : ∀ j : Nat, j < 16 → ∃ r, rs[j]? = some (some r)) : ¬ ff rs < 16 := fun h => by
  obtain ⟨r, hr⟩ := h2 _ h
  rw [ff_free (by omega)] at hr
  cases hr
end
section
variable {w : World} {R : Nat} {v : Value} {K : List Rw} {last : Int} {rs : List (Option Er)} {F : Nat → Prop}
/-- a row is appended -/
theorem RtAt.app {W1 W3 : World} {v2 : Value} {s : Int} {o : Obj} {x : Rw} (h : RtAt w R v K last) (he : ∀ b, F b ↔ b = R ∨ v.ownBlock = some b) (hb : Below w.heap.size w W1) (ho : W3.ownsRow 0 85 25 v2 (K.length + 1) (encW K ++ encW1 x)) (hg : ((W1.setCell ⟨R, 1, none⟩ (.int .i64 s)).alloc o).grownBy W3 v.ownBlock) (hloc : v2.ownBlock = v.ownBlock ∨ v2.ownBlock = some ((W1.setCell ⟨R, 1, none⟩ (.int .i64 s)).alloc o).heap.size) :
    RtAt (W3.setCell ⟨R, 0, none⟩ v2) R v2 (K ++ [x]) s ∧ Ext F w (fun b => b = R ∨ v2.ownBlock = some b) (W3.setCell ⟨R, 0, none⟩ v2) := by
  have hRl := h.lt
  have hsz := hb.size
  have hs1 : (W1.setCell ⟨R, 1, none⟩ (.int .i64 s)).heap.size = W1.heap.size := by simp [World.setCell]
  have hsA : ((W1.setCell ⟨R, 1, none⟩ (.int .i64 s)).alloc o).heap.size = W1.heap.size + 1 := by simp [hs1]
  have hs3 := hg.size
  have hv := fun b (e : v.ownBlock = some b) => ownsRow_lt h.row e
  have old : ∀ b, b < w.heap.size → v.ownBlock ≠ some b → W3.heap[b]? = (W1.setCell ⟨R, 1, none⟩ (.int .i64 s)).heap[b]? := fun b hb0 hne => by
    rw [hg.block b (by omega) (fun e => hne e.symm), Below.heap_alloc _ _ _ (by omega)]
  have hR1 : (W1.setCell ⟨R, 1, none⟩ (.int .i64 s)).heap[R]? = some (.cells #[v, .int .i64 s] 83 (0, 0)) := by
    have h1 := h.top
    rw [← hb.block R hRl] at h1
    rw [heap_setCell_same _ R 1 _ _ (.int .i64 s) h1]; rfl
  have hR2 : v2.ownBlock ≠ some R := fun e => by
    rcases hloc with h1 | h1
    · exact h.ne (h1 ▸ e)
    · rw [h1] at e; simp only [Option.some.injEq] at e; omega
  have hR3 : W3.heap[R]? = some (.cells #[v, .int .i64 s] 83 (0, 0)) := (old R hRl h.ne).trans hR1
  have set : ∀ b, b ≠ R → (W3.setCell ⟨R, 0, none⟩ v2).heap[b]? = W3.heap[b]? := fun b hne => heap_setCell_other _ _ _ _ hne
  refine ⟨⟨?_, ?_, hR2⟩, ⟨⟨?_, ?_, ?_, ?_, ?_⟩, ?_⟩⟩
  · rw [heap_setCell_same _ R 0 _ _ v2 hR3]; rfl
  · rw [List.length_append, encW_app]
    refine ownsRow_keep (xs := encW K ++ encW [x]) ?_ (fun b hb' => set b (fun e => hR2 (e ▸ hb')))
    have : encW [x] = encW1 x := by simp [encW]
    rw [this]; exact ho
  · exact hg.os.trans hb.os
  · exact hg.tape.trans hb.tape
  · exact hg.output.trans hb.output
  · simp [World.setCell]; omega
  · intro b hb' hF
    have hne : b ≠ R := fun e => hF ((he b).2 (.inl e))
    have hnv : v.ownBlock ≠ some b := fun e => hF ((he b).2 (.inr e))
    rw [set b hne, old b hb' hnv, heap_setCell_other _ _ _ _ hne]
    exact hb.block b hb'
  · rintro b (rfl | e)
    · exact .inl ((he b).2 (.inl rfl))
    · rcases hloc with h1 | h1
      · exact .inl ((he b).2 (.inr (h1 ▸ e)))
      · rw [h1] at e; simp only [Option.some.injEq] at e; right; omega
set_option maxHeartbeats 1600000 in
theorem createD_none (h : RtA R rs last w F) (hl : rs.length = 16) (e : Int) (hn : look rs e = none) (s : Int) (q : Qt) : Calls Tryz.prog 15 #[tp R, .int .i64 e, .int .i64 s, q.val] w fun x w' => x = .returned (.tuple #[.int .i64 (-1), .int .i64 90]) ∧ Below w.heap.size w w' := by
  obtain ⟨v, K, h, ha, he⟩ := h
  have hb0 := (Below.refl w.heap.size w).alloc (Nat.le_refl _) (.cells #[.int .i64 q.f, .int .i64 q.e, .int .i64 q.x] 30)
  have HAt := hide (atb_any (h.below hb0) ha hl e)
  have HN : Hid (∀ (n : Nat) (r : Er), e = (n : Int) → rs[n]? ≠ some (some r)) := hide (fun n r en hr => by
    rw [en, look_nat, hr] at hn; cases hn)
  have HB := hide hb0
  clear h ha he hl hn hb0
  unfold Qt.val
  go_enter Tryz.func15, Tryz.ntmps15
  go_upto_region 1 with fail
  show Code.wp _ _ _ _ (w.alloc (.cells #[.int .i64 q.f, .int .i64 q.e, .int .i64 q.x] 30))
  generalize w.alloc (.cells #[.int .i64 q.f, .int .i64 q.e, .int .i64 q.x] 30) = w1 at *
  go_wp2_with fail
  refine HAt.out.mono ?_
  rintro e1 w2 ⟨hw2, ⟨i, n, r, -, -, hen, hr⟩ | ⟨rfl, -⟩⟩
  · exact absurd hr (HN.out n r hen)
  · subst hw2
    clear HAt HN
    go_wp2
    go_ret2
    exact ⟨rfl, HB.out⟩
set_option maxRecDepth 8000 in
set_option maxHeartbeats 3200000 in
theorem createD_bad1 (h : RtA R rs last w F) (iv : Iv rs last) (n : Nat) (r : Er) (hr : rs[n]? = some (some r)) (s : Int) (q : Qt) (hg : ¬ q.good) : Calls Tryz.prog 15 #[tp R, .int .i64 (n : Int), .int .i64 s, q.val] w fun x w' => x = .returned (.tuple #[.int .i64 (-1), .int .i64 1]) ∧ RtA R rs last w' F ∧ Ext F w F w' := by
  obtain ⟨v, K, h, ha, he⟩ := h
  obtain ⟨i, hi⟩ := List.getElem?_of_mem ((ha.mem n r).2 hr)
  have hb0 := (Below.refl w.heap.size w).alloc (Nat.le_refl _) (.cells #[.int .i64 q.f, .int .i64 q.e, .int .i64 q.x] 30)
  have h0 := heap_alloc_new w (.cells #[.int .i64 q.f, .int .i64 q.e, .int .i64 q.x] 30)
  have hw0 := h
  have h := h.below hb0
  obtain ⟨g, c, hv, hrow⟩ := h.at hi
  have HAt := hide (atb_any h ha iv.tr.len (n : Int))
  have HOn : Hid (∀ (i' n' : Nat) (r' : Er), K[i']? = some (n', r') → (n : Int) = (n' : Int) → i' = i) := hide (fun i' n' r' h1 h2 => ha.once h1 hi (by simp; omega))
  have HEx : Hid (∃ r', rs[n]? = some (some r')) := hide ⟨r, hr⟩
  have hil := (List.getElem?_eq_some_iff.1 hi).1
  obtain ⟨L, hL⟩ : ∃ L, K.length = L := ⟨_, rfl⟩
  rw [hL] at hv hil
  have hii : (i : Int) < (L : Int) := by omega
  subst hv
  have hgf : decide q.good = false := by simp [hg]
  clear hg
  have HIx := hide hi
  have HRtB : Hid (∀ W, Below w.heap.size w W → RtAt W R (.slice (some ⟨g, 0, none⟩) L c) K last) := hide (fun W hW => hw0.below hW)
  have HKp : Hid (∀ W, Below w.heap.size w W → RtA R rs last W F ∧ Ext F w F W) := hide (fun W hW => ⟨⟨_, K, hw0.below hW, ha, he⟩, ext_below hW⟩)
  have HLf : Hid (∀ W, Below w.heap.size w W → Calls Tryz.prog 61 #[tp R, .int .i64 (i : Int)] W fun x w' => x = .returned r.le.val ∧ Below W.heap.size W w') := hide (fun W hW => leftD_any (hw0.below hW) ha iv hi)
  have HFr : Hid (∀ W, Below w.heap.size w W → Calls Tryz.prog 63 #[tp R] W fun x w' => w' = W ∧ ((∃ k : Nat, k < 16 ∧ x = .returned (.int .i64 (k : Int)) ∧ rs[k]? = some none ∧ ∀ j : Nat, j < k → ∃ r, rs[j]? = some (some r)) ∨ (x = .returned (.int .i64 (-1)) ∧ ∀ j : Nat, j < 16 → ∃ r, rs[j]? = some (some r)))) := hide (fun W hW => freeD_any (hw0.below hW) ha iv.tr.len)
  have HRl : Hid (rs.length = 16) := hide iv.tr.len
  have HB1 := hide hb0
  have HX1 := hide h0
  have HGd := hide (fun W => goodD_any W q)
  have HHH := hide hw0
  have HLL : Hid (L ≤ 16) := hide (by rw [← hL]; exact ha.len iv.tr.len)
  have HKL := hide hL
  have HHe := hide he
  clear hb0 h0 h hw0 ha he hi hr iv hrow hL
  unfold Qt.val
  go_enter Tryz.func15, Tryz.ntmps15
  go_upto_region 1 with fail
  show Code.wp _ _ _ _ (w.alloc (.cells #[.int .i64 q.f, .int .i64 q.e, .int .i64 q.x] 30))
  generalize w.alloc (.cells #[.int .i64 q.f, .int .i64 q.e, .int .i64 q.x] 30) = w1 at *
  obtain ⟨B, hB⟩ : ∃ B, w.heap.size = B := ⟨_, rfl⟩
  rw [hB] at HX1
  rw [hB]
  have HBw : Hid (w.heap.size ≤ B) := hide (Nat.le_of_eq hB)
  clear hB
  go_wp2_with fail
  refine HAt.out.mono ?_
  rintro e1 w2 ⟨hw2, ⟨i', n', r', rfl, hi', hn', -⟩ | ⟨-, hno⟩⟩
  · have e2 := HOn.out i' n' r' hi' hn'
    subst e2
    subst hw2
    clear HAt HOn HEx hi' hn'
    obtain ⟨b0, b1, b2, -, -, -⟩ := blk3 HX1.out
    go_wp2_with fail
    refine (HGd.out w2).mono ?_
    rintro e1 w3 ⟨rfl, hb3⟩
    have HB3 := hide (HB1.out.trans (hb3.mono HB1.out.size))
    have HX3 := hide ((hb3.block B (Array.getElem?_eq_some_iff.1 HX1.out).1).trans HX1.out)
    clear hb3 b0 b1 b2 HGd HB1 HX1
    rw [hgf]
    have cl := (HRtB.out _ HB3.out).lastc
    clear cl
    have HK := hide (HKp.out w3 HB3.out)
    go_wp2
    go_ret2
    exact ⟨rfl, HK.out.1, HK.out.2⟩
  · obtain ⟨r', hr'⟩ := HEx.out
    exact absurd hr' (hno n r' rfl)
set_option maxRecDepth 8000 in
set_option maxHeartbeats 3200000 in
theorem createD_bad2 (h : RtA R rs last w F) (iv : Iv rs last) (n : Nat) (r : Er) (hr : rs[n]? = some (some r)) (s : Int) (q : Qt) (hg : q.good) (hs : s ≤ last) : Calls Tryz.prog 15 #[tp R, .int .i64 (n : Int), .int .i64 s, q.val] w fun x w' => x = .returned (.tuple #[.int .i64 (-1), .int .i64 1]) ∧ RtA R rs last w' F ∧ Ext F w F w' := by
  obtain ⟨v, K, h, ha, he⟩ := h
  obtain ⟨i, hi⟩ := List.getElem?_of_mem ((ha.mem n r).2 hr)
  have hb0 := (Below.refl w.heap.size w).alloc (Nat.le_refl _) (.cells #[.int .i64 q.f, .int .i64 q.e, .int .i64 q.x] 30)
  have h0 := heap_alloc_new w (.cells #[.int .i64 q.f, .int .i64 q.e, .int .i64 q.x] 30)
  have hw0 := h
  have h := h.below hb0
  obtain ⟨g, c, hv, hrow⟩ := h.at hi
  have HAt := hide (atb_any h ha iv.tr.len (n : Int))
  have HOn : Hid (∀ (i' n' : Nat) (r' : Er), K[i']? = some (n', r') → (n : Int) = (n' : Int) → i' = i) := hide (fun i' n' r' h1 h2 => ha.once h1 hi (by simp; omega))
  have HEx : Hid (∃ r', rs[n]? = some (some r')) := hide ⟨r, hr⟩
  have hil := (List.getElem?_eq_some_iff.1 hi).1
  obtain ⟨L, hL⟩ : ∃ L, K.length = L := ⟨_, rfl⟩
  rw [hL] at hv hil
  have hii : (i : Int) < (L : Int) := by omega
  subst hv
  have hgf : decide q.good = true := by simp [hg]
  have hs1 : decide (s ≤ last) = true := by simp [hs]
  clear hg hs
  have HIx := hide hi
  have HRtB : Hid (∀ W, Below w.heap.size w W → RtAt W R (.slice (some ⟨g, 0, none⟩) L c) K last) := hide (fun W hW => hw0.below hW)
  have HKp : Hid (∀ W, Below w.heap.size w W → RtA R rs last W F ∧ Ext F w F W) := hide (fun W hW => ⟨⟨_, K, hw0.below hW, ha, he⟩, ext_below hW⟩)
  have HLf : Hid (∀ W, Below w.heap.size w W → Calls Tryz.prog 61 #[tp R, .int .i64 (i : Int)] W fun x w' => x = .returned r.le.val ∧ Below W.heap.size W w') := hide (fun W hW => leftD_any (hw0.below hW) ha iv hi)
  have HFr : Hid (∀ W, Below w.heap.size w W → Calls Tryz.prog 63 #[tp R] W fun x w' => w' = W ∧ ((∃ k : Nat, k < 16 ∧ x = .returned (.int .i64 (k : Int)) ∧ rs[k]? = some none ∧ ∀ j : Nat, j < k → ∃ r, rs[j]? = some (some r)) ∨ (x = .returned (.int .i64 (-1)) ∧ ∀ j : Nat, j < 16 → ∃ r, rs[j]? = some (some r)))) := hide (fun W hW => freeD_any (hw0.below hW) ha iv.tr.len)
  have HRl : Hid (rs.length = 16) := hide iv.tr.len
  have HB1 := hide hb0
  have HX1 := hide h0
  have HGd := hide (fun W => goodD_any W q)
  have HHH := hide hw0
  have HLL : Hid (L ≤ 16) := hide (by rw [← hL]; exact ha.len iv.tr.len)
  have HKL := hide hL
  have HHe := hide he
  clear hb0 h0 h hw0 ha he hi hr iv hrow hL
  unfold Qt.val
  go_enter Tryz.func15, Tryz.ntmps15
  go_upto_region 1 with fail
  show Code.wp _ _ _ _ (w.alloc (.cells #[.int .i64 q.f, .int .i64 q.e, .int .i64 q.x] 30))
  generalize w.alloc (.cells #[.int .i64 q.f, .int .i64 q.e, .int .i64 q.x] 30) = w1 at *
  obtain ⟨B, hB⟩ : ∃ B, w.heap.size = B := ⟨_, rfl⟩
  rw [hB] at HX1
  rw [hB]
  have HBw : Hid (w.heap.size ≤ B) := hide (Nat.le_of_eq hB)
  clear hB
  go_wp2_with fail
  refine HAt.out.mono ?_
  rintro e1 w2 ⟨hw2, ⟨i', n', r', rfl, hi', hn', -⟩ | ⟨-, hno⟩⟩
  · have e2 := HOn.out i' n' r' hi' hn'
    subst e2
    subst hw2
    clear HAt HOn HEx hi' hn'
    obtain ⟨b0, b1, b2, -, -, -⟩ := blk3 HX1.out
    go_wp2_with fail
    refine (HGd.out w2).mono ?_
    rintro e1 w3 ⟨rfl, hb3⟩
    have HB3 := hide (HB1.out.trans (hb3.mono HB1.out.size))
    have HX3 := hide ((hb3.block B (Array.getElem?_eq_some_iff.1 HX1.out).1).trans HX1.out)
    clear hb3 b0 b1 b2 HGd HB1 HX1
    rw [hgf]
    have cl := (HRtB.out _ HB3.out).lastc
    have HK := hide (HKp.out w3 HB3.out)
    go_wp2
    go_ret2
    exact ⟨rfl, HK.out.1, HK.out.2⟩
  · obtain ⟨r', hr'⟩ := HEx.out
    exact absurd hr' (hno n r' rfl)
set_option maxRecDepth 8000 in
set_option maxHeartbeats 3200000 in
theorem createD_bad3 (h : RtA R rs last w F) (iv : Iv rs last) (n : Nat) (r : Er) (hr : rs[n]? = some (some r)) (s : Int) (q : Qt) (hg : q.good) (hs : last < s) (hm : 4611686018427387903 < s) : Calls Tryz.prog 15 #[tp R, .int .i64 (n : Int), .int .i64 s, q.val] w fun x w' => x = .returned (.tuple #[.int .i64 (-1), .int .i64 1]) ∧ RtA R rs last w' F ∧ Ext F w F w' := by
  obtain ⟨v, K, h, ha, he⟩ := h
  obtain ⟨i, hi⟩ := List.getElem?_of_mem ((ha.mem n r).2 hr)
  have hb0 := (Below.refl w.heap.size w).alloc (Nat.le_refl _) (.cells #[.int .i64 q.f, .int .i64 q.e, .int .i64 q.x] 30)
  have h0 := heap_alloc_new w (.cells #[.int .i64 q.f, .int .i64 q.e, .int .i64 q.x] 30)
  have hw0 := h
  have h := h.below hb0
  obtain ⟨g, c, hv, hrow⟩ := h.at hi
  have HAt := hide (atb_any h ha iv.tr.len (n : Int))
  have HOn : Hid (∀ (i' n' : Nat) (r' : Er), K[i']? = some (n', r') → (n : Int) = (n' : Int) → i' = i) := hide (fun i' n' r' h1 h2 => ha.once h1 hi (by simp; omega))
  have HEx : Hid (∃ r', rs[n]? = some (some r')) := hide ⟨r, hr⟩
  have hil := (List.getElem?_eq_some_iff.1 hi).1
  obtain ⟨L, hL⟩ : ∃ L, K.length = L := ⟨_, rfl⟩
  rw [hL] at hv hil
  have hii : (i : Int) < (L : Int) := by omega
  subst hv
  have hgf : decide q.good = true := by simp [hg]
  have hs1 : decide (s ≤ last) = false := by simp; omega
  have hs2 : decide (4611686018427387903 < s) = true := by simp [hm]
  clear hg hs hm
  have HIx := hide hi
  have HRtB : Hid (∀ W, Below w.heap.size w W → RtAt W R (.slice (some ⟨g, 0, none⟩) L c) K last) := hide (fun W hW => hw0.below hW)
  have HKp : Hid (∀ W, Below w.heap.size w W → RtA R rs last W F ∧ Ext F w F W) := hide (fun W hW => ⟨⟨_, K, hw0.below hW, ha, he⟩, ext_below hW⟩)
  have HLf : Hid (∀ W, Below w.heap.size w W → Calls Tryz.prog 61 #[tp R, .int .i64 (i : Int)] W fun x w' => x = .returned r.le.val ∧ Below W.heap.size W w') := hide (fun W hW => leftD_any (hw0.below hW) ha iv hi)
  have HFr : Hid (∀ W, Below w.heap.size w W → Calls Tryz.prog 63 #[tp R] W fun x w' => w' = W ∧ ((∃ k : Nat, k < 16 ∧ x = .returned (.int .i64 (k : Int)) ∧ rs[k]? = some none ∧ ∀ j : Nat, j < k → ∃ r, rs[j]? = some (some r)) ∨ (x = .returned (.int .i64 (-1)) ∧ ∀ j : Nat, j < 16 → ∃ r, rs[j]? = some (some r)))) := hide (fun W hW => freeD_any (hw0.below hW) ha iv.tr.len)
  have HRl : Hid (rs.length = 16) := hide iv.tr.len
  have HB1 := hide hb0
  have HX1 := hide h0
  have HGd := hide (fun W => goodD_any W q)
  have HHH := hide hw0
  have HLL : Hid (L ≤ 16) := hide (by rw [← hL]; exact ha.len iv.tr.len)
  have HKL := hide hL
  have HHe := hide he
  clear hb0 h0 h hw0 ha he hi hr iv hrow hL
  unfold Qt.val
  go_enter Tryz.func15, Tryz.ntmps15
  go_upto_region 1 with fail
  show Code.wp _ _ _ _ (w.alloc (.cells #[.int .i64 q.f, .int .i64 q.e, .int .i64 q.x] 30))
  generalize w.alloc (.cells #[.int .i64 q.f, .int .i64 q.e, .int .i64 q.x] 30) = w1 at *
  obtain ⟨B, hB⟩ : ∃ B, w.heap.size = B := ⟨_, rfl⟩
  rw [hB] at HX1
  rw [hB]
  have HBw : Hid (w.heap.size ≤ B) := hide (Nat.le_of_eq hB)
  clear hB
  go_wp2_with fail
  refine HAt.out.mono ?_
  rintro e1 w2 ⟨hw2, ⟨i', n', r', rfl, hi', hn', -⟩ | ⟨-, hno⟩⟩
  · have e2 := HOn.out i' n' r' hi' hn'
    subst e2
    subst hw2
    clear HAt HOn HEx hi' hn'
    obtain ⟨b0, b1, b2, -, -, -⟩ := blk3 HX1.out
    go_wp2_with fail
    refine (HGd.out w2).mono ?_
    rintro e1 w3 ⟨rfl, hb3⟩
    have HB3 := hide (HB1.out.trans (hb3.mono HB1.out.size))
    have HX3 := hide ((hb3.block B (Array.getElem?_eq_some_iff.1 HX1.out).1).trans HX1.out)
    clear hb3 b0 b1 b2 HGd HB1 HX1
    rw [hgf]
    have cl := (HRtB.out _ HB3.out).lastc
    have HK := hide (HKp.out w3 HB3.out)
    go_wp2
    go_ret2
    exact ⟨rfl, HK.out.1, HK.out.2⟩
  · obtain ⟨r', hr'⟩ := HEx.out
    exact absurd hr' (hno n r' rfl)
set_option maxRecDepth 8000 in
set_option maxHeartbeats 3200000 in
theorem createD_full1 (h : RtA R rs last w F) (iv : Iv rs last) (n : Nat) (r : Er) (hr : rs[n]? = some (some r)) (s : Int) (q : Qt) (hg : q.good) (hs : last < s) (hm : s ≤ 4611686018427387903) (hf : ¬ q.le r.le) : Calls Tryz.prog 15 #[tp R, .int .i64 (n : Int), .int .i64 s, q.val] w fun x w' => x = .returned (.tuple #[.int .i64 (-1), .int .i64 2]) ∧ RtA R rs last w' F ∧ Ext F w F w' := by
  obtain ⟨v, K, h, ha, he⟩ := h
  obtain ⟨i, hi⟩ := List.getElem?_of_mem ((ha.mem n r).2 hr)
  have hb0 := (Below.refl w.heap.size w).alloc (Nat.le_refl _) (.cells #[.int .i64 q.f, .int .i64 q.e, .int .i64 q.x] 30)
  have h0 := heap_alloc_new w (.cells #[.int .i64 q.f, .int .i64 q.e, .int .i64 q.x] 30)
  have hw0 := h
  have h := h.below hb0
  obtain ⟨g, c, hv, hrow⟩ := h.at hi
  have HAt := hide (atb_any h ha iv.tr.len (n : Int))
  have HOn : Hid (∀ (i' n' : Nat) (r' : Er), K[i']? = some (n', r') → (n : Int) = (n' : Int) → i' = i) := hide (fun i' n' r' h1 h2 => ha.once h1 hi (by simp; omega))
  have HEx : Hid (∃ r', rs[n]? = some (some r')) := hide ⟨r, hr⟩
  have hil := (List.getElem?_eq_some_iff.1 hi).1
  obtain ⟨L, hL⟩ : ∃ L, K.length = L := ⟨_, rfl⟩
  rw [hL] at hv hil
  have hii : (i : Int) < (L : Int) := by omega
  subst hv
  have hgf : decide q.good = true := by simp [hg]
  have hs1 : decide (s ≤ last) = false := by simp; omega
  have hs2 : decide (4611686018427387903 < s) = false := by simp; omega
  have hff : decide (q.le r.le) = false := by simp [hf]
  clear hg hs hm hf
  have HIx := hide hi
  have HRtB : Hid (∀ W, Below w.heap.size w W → RtAt W R (.slice (some ⟨g, 0, none⟩) L c) K last) := hide (fun W hW => hw0.below hW)
  have HKp : Hid (∀ W, Below w.heap.size w W → RtA R rs last W F ∧ Ext F w F W) := hide (fun W hW => ⟨⟨_, K, hw0.below hW, ha, he⟩, ext_below hW⟩)
  have HLf : Hid (∀ W, Below w.heap.size w W → Calls Tryz.prog 61 #[tp R, .int .i64 (i : Int)] W fun x w' => x = .returned r.le.val ∧ Below W.heap.size W w') := hide (fun W hW => leftD_any (hw0.below hW) ha iv hi)
  have HFr : Hid (∀ W, Below w.heap.size w W → Calls Tryz.prog 63 #[tp R] W fun x w' => w' = W ∧ ((∃ k : Nat, k < 16 ∧ x = .returned (.int .i64 (k : Int)) ∧ rs[k]? = some none ∧ ∀ j : Nat, j < k → ∃ r, rs[j]? = some (some r)) ∨ (x = .returned (.int .i64 (-1)) ∧ ∀ j : Nat, j < 16 → ∃ r, rs[j]? = some (some r)))) := hide (fun W hW => freeD_any (hw0.below hW) ha iv.tr.len)
  have HRl : Hid (rs.length = 16) := hide iv.tr.len
  have HB1 := hide hb0
  have HX1 := hide h0
  have HGd := hide (fun W => goodD_any W q)
  have HHH := hide hw0
  have HLL : Hid (L ≤ 16) := hide (by rw [← hL]; exact ha.len iv.tr.len)
  have HKL := hide hL
  have HHe := hide he
  clear hb0 h0 h hw0 ha he hi hr iv hrow hL
  unfold Qt.val
  go_enter Tryz.func15, Tryz.ntmps15
  go_upto_region 1 with fail
  show Code.wp _ _ _ _ (w.alloc (.cells #[.int .i64 q.f, .int .i64 q.e, .int .i64 q.x] 30))
  generalize w.alloc (.cells #[.int .i64 q.f, .int .i64 q.e, .int .i64 q.x] 30) = w1 at *
  obtain ⟨B, hB⟩ : ∃ B, w.heap.size = B := ⟨_, rfl⟩
  rw [hB] at HX1
  rw [hB]
  have HBw : Hid (w.heap.size ≤ B) := hide (Nat.le_of_eq hB)
  clear hB
  go_wp2_with fail
  refine HAt.out.mono ?_
  rintro e1 w2 ⟨hw2, ⟨i', n', r', rfl, hi', hn', -⟩ | ⟨-, hno⟩⟩
  · have e2 := HOn.out i' n' r' hi' hn'
    subst e2
    subst hw2
    clear HAt HOn HEx hi' hn'
    obtain ⟨b0, b1, b2, -, -, -⟩ := blk3 HX1.out
    go_wp2_with fail
    refine (HGd.out w2).mono ?_
    rintro e1 w3 ⟨rfl, hb3⟩
    have HB3 := hide (HB1.out.trans (hb3.mono HB1.out.size))
    have HX3 := hide ((hb3.block B (Array.getElem?_eq_some_iff.1 HX1.out).1).trans HX1.out)
    clear hb3 b0 b1 b2 HGd HB1 HX1
    rw [hgf]
    have cl := (HRtB.out _ HB3.out).lastc
    go_upto_region 7 with fail
    go_wp2_with fail
    refine (HLf.out w3 HB3.out).mono ?_
    rintro e1 w4 ⟨rfl, hb4⟩
    have HB4 := hide (HB3.out.trans (hb4.mono HB3.out.size))
    have HX4 := hide ((hb4.block B (Array.getElem?_eq_some_iff.1 HX3.out).1).trans HX3.out)
    clear hb4 cl HB3 HX3 HLf
    unfold Qt.val
    have hb6 := (Below.refl w4.heap.size w4).alloc (Nat.le_refl _) (.cells #[.int .i64 r.le.f, .int .i64 r.le.e, .int .i64 r.le.x] 30)
    have HC6 := hide (heap_alloc_new w4 (.cells #[.int .i64 r.le.f, .int .i64 r.le.e, .int .i64 r.le.x] 30))
    have HX6 := hide ((hb6.block B (Array.getElem?_eq_some_iff.1 HX4.out).1).trans HX4.out)
    have HB6 := hide (HB4.out.trans (hb6.mono HB4.out.size))
    clear hb6
    go_upto_region 8 with fail
    generalize w4.alloc (.cells #[.int .i64 r.le.f, .int .i64 r.le.e, .int .i64 r.le.x] 30) = w6 at *
    generalize w4.heap.size = C at *
    clear HB4 HX4
    obtain ⟨b0, b1, b2, -, -, -⟩ := blk3 HX6.out
    obtain ⟨d0, d1, d2, -, -, -⟩ := blk3 HC6.out
    go_wp2_with fail
    refine (fitsD_any w6 q r.le).mono ?_
    rintro e1 w7 ⟨rfl, hb7⟩
    have HB7 := hide (HB6.out.trans (hb7.mono HB6.out.size))
    have HX7 := hide ((hb7.block B (Array.getElem?_eq_some_iff.1 HX6.out).1).trans HX6.out)
    have HC7 := hide ((hb7.block C (Array.getElem?_eq_some_iff.1 HC6.out).1).trans HC6.out)
    clear hb7 HB6 HX6 HC6 b0 b1 b2 d0 d1 d2
    rw [hff]
    go_wp2_with fail
    refine (HFr.out w7 HB7.out).mono ?_
    rintro e1 w8 ⟨hw8, hfree⟩
    subst hw8
    have b1 := (blk3 HX7.out).2.1
    have d1 := (blk3 HC7.out).2.1
    obtain ⟨z, rfl⟩ : ∃ z, e1 = .returned (.int .i64 z) := by
      rcases hfree with ⟨k, -, e, -, -⟩ | ⟨e, -⟩
      · exact ⟨_, e⟩
      · exact ⟨_, e⟩
    clear hfree
    have HK := hide (HKp.out w8 HB7.out)
    go_wp2
    go_ret2
    exact ⟨rfl, HK.out.1, HK.out.2⟩
  · obtain ⟨r', hr'⟩ := HEx.out
    exact absurd hr' (hno n r' rfl)
set_option maxRecDepth 8000 in
set_option maxHeartbeats 3200000 in
theorem createD_full2 (h : RtA R rs last w F) (iv : Iv rs last) (n : Nat) (r : Er) (hr : rs[n]? = some (some r)) (s : Int) (q : Qt) (hg : q.good) (hs : last < s) (hm : s ≤ 4611686018427387903) (hf : q.le r.le) (hqe : q.e = r.le.e) : Calls Tryz.prog 15 #[tp R, .int .i64 (n : Int), .int .i64 s, q.val] w fun x w' => x = .returned (.tuple #[.int .i64 (-1), .int .i64 2]) ∧ RtA R rs last w' F ∧ Ext F w F w' := by
  obtain ⟨v, K, h, ha, he⟩ := h
  obtain ⟨i, hi⟩ := List.getElem?_of_mem ((ha.mem n r).2 hr)
  have hb0 := (Below.refl w.heap.size w).alloc (Nat.le_refl _) (.cells #[.int .i64 q.f, .int .i64 q.e, .int .i64 q.x] 30)
  have h0 := heap_alloc_new w (.cells #[.int .i64 q.f, .int .i64 q.e, .int .i64 q.x] 30)
  have hw0 := h
  have h := h.below hb0
  obtain ⟨g, c, hv, hrow⟩ := h.at hi
  have HAt := hide (atb_any h ha iv.tr.len (n : Int))
  have HOn : Hid (∀ (i' n' : Nat) (r' : Er), K[i']? = some (n', r') → (n : Int) = (n' : Int) → i' = i) := hide (fun i' n' r' h1 h2 => ha.once h1 hi (by simp; omega))
  have HEx : Hid (∃ r', rs[n]? = some (some r')) := hide ⟨r, hr⟩
  have hil := (List.getElem?_eq_some_iff.1 hi).1
  obtain ⟨L, hL⟩ : ∃ L, K.length = L := ⟨_, rfl⟩
  rw [hL] at hv hil
  have hii : (i : Int) < (L : Int) := by omega
  subst hv
  have hgf : decide q.good = true := by simp [hg]
  have hs1 : decide (s ≤ last) = false := by simp; omega
  have hs2 : decide (4611686018427387903 < s) = false := by simp; omega
  have hff : decide (q.le r.le) = true := by simp [hf]
  have heb : (q.e == r.le.e) = true := by simp [hqe]
  clear hg hs hm hf hqe
  have HIx := hide hi
  have HRtB : Hid (∀ W, Below w.heap.size w W → RtAt W R (.slice (some ⟨g, 0, none⟩) L c) K last) := hide (fun W hW => hw0.below hW)
  have HKp : Hid (∀ W, Below w.heap.size w W → RtA R rs last W F ∧ Ext F w F W) := hide (fun W hW => ⟨⟨_, K, hw0.below hW, ha, he⟩, ext_below hW⟩)
  have HLf : Hid (∀ W, Below w.heap.size w W → Calls Tryz.prog 61 #[tp R, .int .i64 (i : Int)] W fun x w' => x = .returned r.le.val ∧ Below W.heap.size W w') := hide (fun W hW => leftD_any (hw0.below hW) ha iv hi)
  have HFr : Hid (∀ W, Below w.heap.size w W → Calls Tryz.prog 63 #[tp R] W fun x w' => w' = W ∧ ((∃ k : Nat, k < 16 ∧ x = .returned (.int .i64 (k : Int)) ∧ rs[k]? = some none ∧ ∀ j : Nat, j < k → ∃ r, rs[j]? = some (some r)) ∨ (x = .returned (.int .i64 (-1)) ∧ ∀ j : Nat, j < 16 → ∃ r, rs[j]? = some (some r)))) := hide (fun W hW => freeD_any (hw0.below hW) ha iv.tr.len)
  have HRl : Hid (rs.length = 16) := hide iv.tr.len
  have HB1 := hide hb0
  have HX1 := hide h0
  have HGd := hide (fun W => goodD_any W q)
  have HHH := hide hw0
  have HLL : Hid (L ≤ 16) := hide (by rw [← hL]; exact ha.len iv.tr.len)
  have HKL := hide hL
  have HHe := hide he
  clear hb0 h0 h hw0 ha he hi hr iv hrow hL
  unfold Qt.val
  go_enter Tryz.func15, Tryz.ntmps15
  go_upto_region 1 with fail
  show Code.wp _ _ _ _ (w.alloc (.cells #[.int .i64 q.f, .int .i64 q.e, .int .i64 q.x] 30))
  generalize w.alloc (.cells #[.int .i64 q.f, .int .i64 q.e, .int .i64 q.x] 30) = w1 at *
  obtain ⟨B, hB⟩ : ∃ B, w.heap.size = B := ⟨_, rfl⟩
  rw [hB] at HX1
  rw [hB]
  have HBw : Hid (w.heap.size ≤ B) := hide (Nat.le_of_eq hB)
  clear hB
  go_wp2_with fail
  refine HAt.out.mono ?_
  rintro e1 w2 ⟨hw2, ⟨i', n', r', rfl, hi', hn', -⟩ | ⟨-, hno⟩⟩
  · have e2 := HOn.out i' n' r' hi' hn'
    subst e2
    subst hw2
    clear HAt HOn HEx hi' hn'
    obtain ⟨b0, b1, b2, -, -, -⟩ := blk3 HX1.out
    go_wp2_with fail
    refine (HGd.out w2).mono ?_
    rintro e1 w3 ⟨rfl, hb3⟩
    have HB3 := hide (HB1.out.trans (hb3.mono HB1.out.size))
    have HX3 := hide ((hb3.block B (Array.getElem?_eq_some_iff.1 HX1.out).1).trans HX1.out)
    clear hb3 b0 b1 b2 HGd HB1 HX1
    rw [hgf]
    have cl := (HRtB.out _ HB3.out).lastc
    go_upto_region 7 with fail
    go_wp2_with fail
    refine (HLf.out w3 HB3.out).mono ?_
    rintro e1 w4 ⟨rfl, hb4⟩
    have HB4 := hide (HB3.out.trans (hb4.mono HB3.out.size))
    have HX4 := hide ((hb4.block B (Array.getElem?_eq_some_iff.1 HX3.out).1).trans HX3.out)
    clear hb4 cl HB3 HX3 HLf
    unfold Qt.val
    have hb6 := (Below.refl w4.heap.size w4).alloc (Nat.le_refl _) (.cells #[.int .i64 r.le.f, .int .i64 r.le.e, .int .i64 r.le.x] 30)
    have HC6 := hide (heap_alloc_new w4 (.cells #[.int .i64 r.le.f, .int .i64 r.le.e, .int .i64 r.le.x] 30))
    have HX6 := hide ((hb6.block B (Array.getElem?_eq_some_iff.1 HX4.out).1).trans HX4.out)
    have HB6 := hide (HB4.out.trans (hb6.mono HB4.out.size))
    clear hb6
    go_upto_region 8 with fail
    generalize w4.alloc (.cells #[.int .i64 r.le.f, .int .i64 r.le.e, .int .i64 r.le.x] 30) = w6 at *
    generalize w4.heap.size = C at *
    clear HB4 HX4
    obtain ⟨b0, b1, b2, -, -, -⟩ := blk3 HX6.out
    obtain ⟨d0, d1, d2, -, -, -⟩ := blk3 HC6.out
    go_wp2_with fail
    refine (fitsD_any w6 q r.le).mono ?_
    rintro e1 w7 ⟨rfl, hb7⟩
    have HB7 := hide (HB6.out.trans (hb7.mono HB6.out.size))
    have HX7 := hide ((hb7.block B (Array.getElem?_eq_some_iff.1 HX6.out).1).trans HX6.out)
    have HC7 := hide ((hb7.block C (Array.getElem?_eq_some_iff.1 HC6.out).1).trans HC6.out)
    clear hb7 HB6 HX6 HC6 b0 b1 b2 d0 d1 d2
    rw [hff]
    go_wp2_with fail
    refine (HFr.out w7 HB7.out).mono ?_
    rintro e1 w8 ⟨hw8, hfree⟩
    subst hw8
    have b1 := (blk3 HX7.out).2.1
    have d1 := (blk3 HC7.out).2.1
    obtain ⟨z, rfl⟩ : ∃ z, e1 = .returned (.int .i64 z) := by
      rcases hfree with ⟨k, -, e, -, -⟩ | ⟨e, -⟩
      · exact ⟨_, e⟩
      · exact ⟨_, e⟩
    clear hfree
    have HK := hide (HKp.out w8 HB7.out)
    go_wp2
    go_ret2
    exact ⟨rfl, HK.out.1, HK.out.2⟩
  · obtain ⟨r', hr'⟩ := HEx.out
    exact absurd hr' (hno n r' rfl)
set_option maxRecDepth 8000 in
set_option maxHeartbeats 3200000 in
theorem createD_full3 (h : RtA R rs last w F) (iv : Iv rs last) (n : Nat) (r : Er) (hr : rs[n]? = some (some r)) (s : Int) (q : Qt) (hg : q.good) (hs : last < s) (hm : s ≤ 4611686018427387903) (hf : q.le r.le) (hqn : q.e ≠ r.le.e) (hfr : ¬ ff rs < 16) : Calls Tryz.prog 15 #[tp R, .int .i64 (n : Int), .int .i64 s, q.val] w fun x w' => x = .returned (.tuple #[.int .i64 (-1), .int .i64 2]) ∧ RtA R rs last w' F ∧ Ext F w F w' := by
  obtain ⟨v, K, h, ha, he⟩ := h
  obtain ⟨i, hi⟩ := List.getElem?_of_mem ((ha.mem n r).2 hr)
  have hb0 := (Below.refl w.heap.size w).alloc (Nat.le_refl _) (.cells #[.int .i64 q.f, .int .i64 q.e, .int .i64 q.x] 30)
  have h0 := heap_alloc_new w (.cells #[.int .i64 q.f, .int .i64 q.e, .int .i64 q.x] 30)
  have hw0 := h
  have h := h.below hb0
  obtain ⟨g, c, hv, hrow⟩ := h.at hi
  have HAt := hide (atb_any h ha iv.tr.len (n : Int))
  have HOn : Hid (∀ (i' n' : Nat) (r' : Er), K[i']? = some (n', r') → (n : Int) = (n' : Int) → i' = i) := hide (fun i' n' r' h1 h2 => ha.once h1 hi (by simp; omega))
  have HEx : Hid (∃ r', rs[n]? = some (some r')) := hide ⟨r, hr⟩
  have hil := (List.getElem?_eq_some_iff.1 hi).1
  obtain ⟨L, hL⟩ : ∃ L, K.length = L := ⟨_, rfl⟩
  rw [hL] at hv hil
  have hii : (i : Int) < (L : Int) := by omega
  subst hv
  have hgf : decide q.good = true := by simp [hg]
  have hs1 : decide (s ≤ last) = false := by simp; omega
  have hs2 : decide (4611686018427387903 < s) = false := by simp; omega
  have hff : decide (q.le r.le) = true := by simp [hf]
  have heb : (q.e == r.le.e) = false := by simp [hqn]
  have HFF := hide hfr
  clear hg hs hm hf hqn hfr
  have HIx := hide hi
  have HRtB : Hid (∀ W, Below w.heap.size w W → RtAt W R (.slice (some ⟨g, 0, none⟩) L c) K last) := hide (fun W hW => hw0.below hW)
  have HKp : Hid (∀ W, Below w.heap.size w W → RtA R rs last W F ∧ Ext F w F W) := hide (fun W hW => ⟨⟨_, K, hw0.below hW, ha, he⟩, ext_below hW⟩)
  have HLf : Hid (∀ W, Below w.heap.size w W → Calls Tryz.prog 61 #[tp R, .int .i64 (i : Int)] W fun x w' => x = .returned r.le.val ∧ Below W.heap.size W w') := hide (fun W hW => leftD_any (hw0.below hW) ha iv hi)
  have HFr : Hid (∀ W, Below w.heap.size w W → Calls Tryz.prog 63 #[tp R] W fun x w' => w' = W ∧ ((∃ k : Nat, k < 16 ∧ x = .returned (.int .i64 (k : Int)) ∧ rs[k]? = some none ∧ ∀ j : Nat, j < k → ∃ r, rs[j]? = some (some r)) ∨ (x = .returned (.int .i64 (-1)) ∧ ∀ j : Nat, j < 16 → ∃ r, rs[j]? = some (some r)))) := hide (fun W hW => freeD_any (hw0.below hW) ha iv.tr.len)
  have HRl : Hid (rs.length = 16) := hide iv.tr.len
  have HB1 := hide hb0
  have HX1 := hide h0
  have HGd := hide (fun W => goodD_any W q)
  have HHH := hide hw0
  have HLL : Hid (L ≤ 16) := hide (by rw [← hL]; exact ha.len iv.tr.len)
  have HKL := hide hL
  have HHe := hide he
  clear hb0 h0 h hw0 ha he hi hr iv hrow hL
  unfold Qt.val
  go_enter Tryz.func15, Tryz.ntmps15
  go_upto_region 1 with fail
  show Code.wp _ _ _ _ (w.alloc (.cells #[.int .i64 q.f, .int .i64 q.e, .int .i64 q.x] 30))
  generalize w.alloc (.cells #[.int .i64 q.f, .int .i64 q.e, .int .i64 q.x] 30) = w1 at *
  obtain ⟨B, hB⟩ : ∃ B, w.heap.size = B := ⟨_, rfl⟩
  rw [hB] at HX1
  rw [hB]
  have HBw : Hid (w.heap.size ≤ B) := hide (Nat.le_of_eq hB)
  clear hB
  go_wp2_with fail
  refine HAt.out.mono ?_
  rintro e1 w2 ⟨hw2, ⟨i', n', r', rfl, hi', hn', -⟩ | ⟨-, hno⟩⟩
  · have e2 := HOn.out i' n' r' hi' hn'
    subst e2
    subst hw2
    clear HAt HOn HEx hi' hn'
    obtain ⟨b0, b1, b2, -, -, -⟩ := blk3 HX1.out
    go_wp2_with fail
    refine (HGd.out w2).mono ?_
    rintro e1 w3 ⟨rfl, hb3⟩
    have HB3 := hide (HB1.out.trans (hb3.mono HB1.out.size))
    have HX3 := hide ((hb3.block B (Array.getElem?_eq_some_iff.1 HX1.out).1).trans HX1.out)
    clear hb3 b0 b1 b2 HGd HB1 HX1
    rw [hgf]
    have cl := (HRtB.out _ HB3.out).lastc
    go_upto_region 7 with fail
    go_wp2_with fail
    refine (HLf.out w3 HB3.out).mono ?_
    rintro e1 w4 ⟨rfl, hb4⟩
    have HB4 := hide (HB3.out.trans (hb4.mono HB3.out.size))
    have HX4 := hide ((hb4.block B (Array.getElem?_eq_some_iff.1 HX3.out).1).trans HX3.out)
    clear hb4 cl HB3 HX3 HLf
    unfold Qt.val
    have hb6 := (Below.refl w4.heap.size w4).alloc (Nat.le_refl _) (.cells #[.int .i64 r.le.f, .int .i64 r.le.e, .int .i64 r.le.x] 30)
    have HC6 := hide (heap_alloc_new w4 (.cells #[.int .i64 r.le.f, .int .i64 r.le.e, .int .i64 r.le.x] 30))
    have HX6 := hide ((hb6.block B (Array.getElem?_eq_some_iff.1 HX4.out).1).trans HX4.out)
    have HB6 := hide (HB4.out.trans (hb6.mono HB4.out.size))
    clear hb6
    go_upto_region 8 with fail
    generalize w4.alloc (.cells #[.int .i64 r.le.f, .int .i64 r.le.e, .int .i64 r.le.x] 30) = w6 at *
    generalize w4.heap.size = C at *
    clear HB4 HX4
    obtain ⟨b0, b1, b2, -, -, -⟩ := blk3 HX6.out
    obtain ⟨d0, d1, d2, -, -, -⟩ := blk3 HC6.out
    go_wp2_with fail
    refine (fitsD_any w6 q r.le).mono ?_
    rintro e1 w7 ⟨rfl, hb7⟩
    have HB7 := hide (HB6.out.trans (hb7.mono HB6.out.size))
    have HX7 := hide ((hb7.block B (Array.getElem?_eq_some_iff.1 HX6.out).1).trans HX6.out)
    have HC7 := hide ((hb7.block C (Array.getElem?_eq_some_iff.1 HC6.out).1).trans HC6.out)
    clear hb7 HB6 HX6 HC6 b0 b1 b2 d0 d1 d2
    rw [hff]
    go_wp2_with fail
    refine (HFr.out w7 HB7.out).mono ?_
    rintro e1 w8 ⟨hw8, hfree⟩
    subst hw8
    have b1 := (blk3 HX7.out).2.1
    have d1 := (blk3 HC7.out).2.1
    rcases hfree with ⟨k, hk, rfl, hk0, hk1⟩ | ⟨rfl, -⟩
    · exact absurd (by rw [ff_is hk0 hk1]; exact hk) HFF.out
    · have HK := hide (HKp.out w8 HB7.out)
      go_wp2
      go_ret2
      exact ⟨rfl, HK.out.1, HK.out.2⟩

  · obtain ⟨r', hr'⟩ := HEx.out
    exact absurd hr' (hno n r' rfl)
set_option maxRecDepth 8000 in
set_option maxHeartbeats 3200000 in
theorem createD_ok (h : RtA R rs last w F) (iv : Iv rs last) (n : Nat) (r : Er) (hr : rs[n]? = some (some r)) (s : Int) (q : Qt) (hg : q.good) (hs : last < s) (hm : s ≤ 4611686018427387903) (hf : q.le r.le) (hqn : q.e ≠ r.le.e) (hfr : ff rs < 16) : Calls Tryz.prog 15 #[tp R, .int .i64 (n : Int), .int .i64 s, q.val] w fun x w' => x = .returned (.tuple #[.int .i64 ((ff rs : Nat) : Int), .int .i64 0]) ∧ ∃ F', RtA R ((rs.set (ff rs) (some (Er.new s (n : Int) q))).set n (some { r with le := r.le.less (q.plus Qt.one) })) s w' F' ∧ Ext F w F' w' := by
  obtain ⟨v, K, h, ha, he⟩ := h
  obtain ⟨i, hi⟩ := List.getElem?_of_mem ((ha.mem n r).2 hr)
  have hb0 := (Below.refl w.heap.size w).alloc (Nat.le_refl _) (.cells #[.int .i64 q.f, .int .i64 q.e, .int .i64 q.x] 30)
  have h0 := heap_alloc_new w (.cells #[.int .i64 q.f, .int .i64 q.e, .int .i64 q.x] 30)
  have hw0 := h
  have h := h.below hb0
  obtain ⟨g, c, hv, hrow⟩ := h.at hi
  have HAt := hide (atb_any h ha iv.tr.len (n : Int))
  have HOn : Hid (∀ (i' n' : Nat) (r' : Er), K[i']? = some (n', r') → (n : Int) = (n' : Int) → i' = i) := hide (fun i' n' r' h1 h2 => ha.once h1 hi (by simp; omega))
  have HEx : Hid (∃ r', rs[n]? = some (some r')) := hide ⟨r, hr⟩
  have hil := (List.getElem?_eq_some_iff.1 hi).1
  obtain ⟨L, hL⟩ : ∃ L, K.length = L := ⟨_, rfl⟩
  rw [hL] at hv hil
  have hii : (i : Int) < (L : Int) := by omega
  subst hv
  have hgf : decide q.good = true := by simp [hg]
  have hs1 : decide (s ≤ last) = false := by simp; omega
  have hs2 : decide (4611686018427387903 < s) = false := by simp; omega
  have hff : decide (q.le r.le) = true := by simp [hf]
  have heb : (q.e == r.le.e) = false := by simp [hqn]
  have HFF := hide hfr
  have HAg : Hid (∀ k : Nat, rs[k]? = some none → Ag ((rs.set k (some (Er.new s (n : Int) q))).set n (some { r with le := r.le.less (q.plus Qt.one) })) (K.set i (n, { r with le := r.le.less (q.plus Qt.one) }) ++ [(k, Er.new s (n : Int) q)])) := hide (fun k hk => by
    have h1 := ha.app (e := Er.new s (n : Int) q) hk (fun y hy => by
      have e1 := (ha.mem y.1 y.2).1 hy
      have e2 := iv.tr.old y.1 ⟨_, e1⟩
      rw [ser_at e1] at e2
      show y.2.se < s
      omega)
    have hne : ¬ k = n := fun e => by rw [e, hr] at hk; cases hk
    have h2 := h1.set (i := i) (n := n) (r := r) (r' := { r with le := r.le.less (q.plus Qt.one) }) (by rw [List.getElem?_append_left (by rw [hL]; exact hil)]; exact hi) (by rw [List.getElem?_set, if_neg hne]; exact hr) rfl
    rw [List.set_append_left _ _ (by rw [hL]; exact hil)] at h2
    exact h2)
  have HGB : Hid (g ≠ R ∧ g ≠ w.heap.size) := hide ⟨fun e => hw0.ne (by simp [Value.ownBlock, e]), fun e => by have := ownsRow_lt hw0.row (show Value.ownBlock _ = some g from rfl); omega⟩
  have HRB : Hid (w.heap.size ≠ R) := hide (fun e => by have := hw0.lt; omega)
  have HSm : Hid (encW (K.set i (n, { r with le := r.le.less (q.plus Qt.one) })) = encW K) := hide (encW_same hi rfl)
  clear hg hs hm hf hqn hfr
  have HIx := hide hi
  have HRtB : Hid (∀ W, Below w.heap.size w W → RtAt W R (.slice (some ⟨g, 0, none⟩) L c) K last) := hide (fun W hW => hw0.below hW)
  have HKp : Hid (∀ W, Below w.heap.size w W → RtA R rs last W F ∧ Ext F w F W) := hide (fun W hW => ⟨⟨_, K, hw0.below hW, ha, he⟩, ext_below hW⟩)
  have HLf : Hid (∀ W, Below w.heap.size w W → Calls Tryz.prog 61 #[tp R, .int .i64 (i : Int)] W fun x w' => x = .returned r.le.val ∧ Below W.heap.size W w') := hide (fun W hW => leftD_any (hw0.below hW) ha iv hi)
  have HFr : Hid (∀ W, Below w.heap.size w W → Calls Tryz.prog 63 #[tp R] W fun x w' => w' = W ∧ ((∃ k : Nat, k < 16 ∧ x = .returned (.int .i64 (k : Int)) ∧ rs[k]? = some none ∧ ∀ j : Nat, j < k → ∃ r, rs[j]? = some (some r)) ∨ (x = .returned (.int .i64 (-1)) ∧ ∀ j : Nat, j < 16 → ∃ r, rs[j]? = some (some r)))) := hide (fun W hW => freeD_any (hw0.below hW) ha iv.tr.len)
  have HRl : Hid (rs.length = 16) := hide iv.tr.len
  have HB1 := hide hb0
  have HX1 := hide h0
  have HGd := hide (fun W => goodD_any W q)
  have HHH := hide hw0
  have HLL : Hid (L ≤ 16) := hide (by rw [← hL]; exact ha.len iv.tr.len)
  have HKL := hide hL
  have HHe := hide he
  clear hb0 h0 h hw0 ha he hi hr iv hrow hL
  unfold Qt.val
  go_enter Tryz.func15, Tryz.ntmps15
  go_upto_region 1 with fail
  show Code.wp _ _ _ _ (w.alloc (.cells #[.int .i64 q.f, .int .i64 q.e, .int .i64 q.x] 30))
  generalize w.alloc (.cells #[.int .i64 q.f, .int .i64 q.e, .int .i64 q.x] 30) = w1 at *
  obtain ⟨B, hB⟩ : ∃ B, w.heap.size = B := ⟨_, rfl⟩
  rw [hB] at HX1 HGB HRB
  rw [hB]
  have HBw : Hid (w.heap.size ≤ B) := hide (Nat.le_of_eq hB)
  clear hB
  go_wp2_with fail
  refine HAt.out.mono ?_
  rintro e1 w2 ⟨hw2, ⟨i', n', r', rfl, hi', hn', -⟩ | ⟨-, hno⟩⟩
  · have e2 := HOn.out i' n' r' hi' hn'
    subst e2
    subst hw2
    clear HAt HOn HEx hi' hn'
    obtain ⟨b0, b1, b2, -, -, -⟩ := blk3 HX1.out
    go_wp2_with fail
    refine (HGd.out w2).mono ?_
    rintro e1 w3 ⟨rfl, hb3⟩
    have HB3 := hide (HB1.out.trans (hb3.mono HB1.out.size))
    have HX3 := hide ((hb3.block B (Array.getElem?_eq_some_iff.1 HX1.out).1).trans HX1.out)
    clear hb3 b0 b1 b2 HGd HB1 HX1
    rw [hgf]
    have cl := (HRtB.out _ HB3.out).lastc
    go_upto_region 7 with fail
    go_wp2_with fail
    refine (HLf.out w3 HB3.out).mono ?_
    rintro e1 w4 ⟨rfl, hb4⟩
    have HB4 := hide (HB3.out.trans (hb4.mono HB3.out.size))
    have HX4 := hide ((hb4.block B (Array.getElem?_eq_some_iff.1 HX3.out).1).trans HX3.out)
    clear hb4 cl HB3 HX3 HLf
    unfold Qt.val
    have hb6 := (Below.refl w4.heap.size w4).alloc (Nat.le_refl _) (.cells #[.int .i64 r.le.f, .int .i64 r.le.e, .int .i64 r.le.x] 30)
    have HC6 := hide (heap_alloc_new w4 (.cells #[.int .i64 r.le.f, .int .i64 r.le.e, .int .i64 r.le.x] 30))
    have HX6 := hide ((hb6.block B (Array.getElem?_eq_some_iff.1 HX4.out).1).trans HX4.out)
    have HB6 := hide (HB4.out.trans (hb6.mono HB4.out.size))
    clear hb6
    go_upto_region 8 with fail
    generalize w4.alloc (.cells #[.int .i64 r.le.f, .int .i64 r.le.e, .int .i64 r.le.x] 30) = w6 at *
    generalize w4.heap.size = C at *
    clear HB4 HX4
    obtain ⟨b0, b1, b2, -, -, -⟩ := blk3 HX6.out
    obtain ⟨d0, d1, d2, -, -, -⟩ := blk3 HC6.out
    go_wp2_with fail
    refine (fitsD_any w6 q r.le).mono ?_
    rintro e1 w7 ⟨rfl, hb7⟩
    have HB7 := hide (HB6.out.trans (hb7.mono HB6.out.size))
    have HX7 := hide ((hb7.block B (Array.getElem?_eq_some_iff.1 HX6.out).1).trans HX6.out)
    have HC7 := hide ((hb7.block C (Array.getElem?_eq_some_iff.1 HC6.out).1).trans HC6.out)
    clear hb7 HB6 HX6 HC6 b0 b1 b2 d0 d1 d2
    rw [hff]
    go_wp2_with fail
    refine (HFr.out w7 HB7.out).mono ?_
    rintro e1 w8 ⟨hw8, hfree⟩
    subst hw8
    have b1 := (blk3 HX7.out).2.1
    have d1 := (blk3 HC7.out).2.1
    rcases hfree with ⟨k, hk, rfl, hk0, hk1⟩ | ⟨rfl, hno⟩
    · have HFk : Hid (ff rs = k) := hide (ff_is hk0 hk1)
      have HAgk := hide (HAg.out k hk0)
      have hkn : decide ((k : Int) < 0) = false := by simp
      clear hk0 hk1 HAg
      have cl := (HRtB.out _ HB7.out).lastc
      have fl := (HRtB.out _ HB7.out).frz 1
      go_upto_region 13 with fail
      clear b1 d1 cl fl hkn HC7
      have HR9 : Hid ((w8.setCell ⟨R, 1, none⟩ (.int .i64 s)).heap[R]? = some (.cells #[.slice (some ⟨g, 0, none⟩) L c, .int .i64 s] 83 (0, 0))) := hide (by rw [heap_setCell_same _ R 1 _ _ (.int .i64 s) (HRtB.out _ HB7.out).top]; rfl)
      have hbd : Below w.heap.size w w8.drew := HB7.out.trans ((below_drew _).mono HB7.out.size)
      refine wp_region_held_drew (S := fun W : World => (∃ u, W.heap[R]? = some (.cells #[u, .int .i64 s] 83 (0, 0))) ∧ W.heap[B]? = some (.cells #[.int .i64 q.f, .int .i64 q.e, .int .i64 q.x] 30 (0, 0))) (by kernel_rfl) ⟨⟨_, HR9.out⟩, by rw [show (w8.setCell ⟨R, 1, none⟩ (.int .i64 s)).drew.heap[B]? = (w8.setCell ⟨R, 1, none⟩ (.int .i64 s)).heap[B]? from rfl, heap_setCell_other _ _ _ _ HRB.out]; exact HX7.out⟩ (fun _ => ?_)
      obtain ⟨iR, hiR, hzR, hsR, hbR⟩ := infoRow
      generalize hw10 : (w8.setCell ⟨R, 1, none⟩ (.int .i64 s)).drew = w10
      have hw10' : w8.drew.setCell ⟨R, 1, none⟩ (.int .i64 s) = w10 := hw10
      have HR10 : Hid (w10.heap[R]? = some (.cells #[.slice (some ⟨g, 0, none⟩) L c, .int .i64 s] 83 (0, 0))) := hide (by rw [← hw10]; exact HR9.out)
      have HX10 : Hid (w10.heap[B]? = some (.cells #[.int .i64 q.f, .int .i64 q.e, .int .i64 q.x] 30 (0, 0))) := hide (by rw [← hw10, show (w8.setCell ⟨R, 1, none⟩ (.int .i64 s)).drew.heap[B]? = (w8.setCell ⟨R, 1, none⟩ (.int .i64 s)).heap[B]? from rfl, heap_setCell_other _ _ _ _ HRB.out]; exact HX7.out)
      have HS10 : Hid ((∃ u, w10.heap[R]? = some (.cells #[u, .int .i64 s] 83 (0, 0))) ∧ w10.heap[B]? = some (.cells #[.int .i64 q.f, .int .i64 q.e, .int .i64 q.x] 30 (0, 0))) := hide ⟨⟨_, HR10.out⟩, HX10.out⟩
      have hRl : R < w10.heap.size := (Array.getElem?_eq_some_iff.1 HR10.out).1
      have hBl : B < w10.heap.size := (Array.getElem?_eq_some_iff.1 HX10.out).1
      have hb11 := (Below.refl w10.heap.size w10).alloc (Nat.le_refl _) (.cells #[.int .i64 (k : Int), .int .i64 s, .int .i64 (n : Int), .int .i64 0, .int .i64 0, .int .i64 0, .bool false, .int .u32 0, .int .u32 0, .int .u32 0, .int .u32 0, .int .u32 0, .int .u32 0, .int .u32 0, .int .u32 0, .int .u32 0, .int .i64 q.f, .int .i64 q.e, .int .i64 q.x, .int .i64 0, .int .i64 0, .int .i64 0, .int .i64 0, .int .i64 0, .int .i64 0] 85)
      have HR11 := hide ((hb11.block R hRl).trans HR10.out)
      have HX11 := hide ((hb11.block B hBl).trans HX10.out)
      have HS11 : Hid ((∃ u, (w10.alloc (.cells #[.int .i64 (k : Int), .int .i64 s, .int .i64 (n : Int), .int .i64 0, .int .i64 0, .int .i64 0, .bool false, .int .u32 0, .int .u32 0, .int .u32 0, .int .u32 0, .int .u32 0, .int .u32 0, .int .u32 0, .int .u32 0, .int .u32 0, .int .i64 q.f, .int .i64 q.e, .int .i64 q.x, .int .i64 0, .int .i64 0, .int .i64 0, .int .i64 0, .int .i64 0, .int .i64 0] 85)).heap[R]? = some (.cells #[u, .int .i64 s] 83 (0, 0))) ∧ (w10.alloc (.cells #[.int .i64 (k : Int), .int .i64 s, .int .i64 (n : Int), .int .i64 0, .int .i64 0, .int .i64 0, .bool false, .int .u32 0, .int .u32 0, .int .u32 0, .int .u32 0, .int .u32 0, .int .u32 0, .int .u32 0, .int .u32 0, .int .u32 0, .int .i64 q.f, .int .i64 q.e, .int .i64 q.x, .int .i64 0, .int .i64 0, .int .i64 0, .int .i64 0, .int .i64 0, .int .i64 0] 85)).heap[B]? = some (.cells #[.int .i64 q.f, .int .i64 q.e, .int .i64 q.x] 30 (0, 0))) := hide ⟨⟨_, HR11.out⟩, HX11.out⟩
      have HN11 : Hid (∀ (j : Nat) (u : Value), (encW1 (k, Er.new s (n : Int) q))[j]? = some u → (w10.alloc (.cells #[.int .i64 (k : Int), .int .i64 s, .int .i64 (n : Int), .int .i64 0, .int .i64 0, .int .i64 0, .bool false, .int .u32 0, .int .u32 0, .int .u32 0, .int .u32 0, .int .u32 0, .int .u32 0, .int .u32 0, .int .u32 0, .int .u32 0, .int .i64 q.f, .int .i64 q.e, .int .i64 q.x, .int .i64 0, .int .i64 0, .int .i64 0, .int .i64 0, .int .i64 0, .int .i64 0] 85)).cell? ((⟨w10.heap.size, 0, none⟩ : Addr).add j) = some u) := hide (row_cells (cs := (encW1 (k, Er.new s (n : Int) q))) (heap_alloc_new w10 (.cells #[.int .i64 (k : Int), .int .i64 s, .int .i64 (n : Int), .int .i64 0, .int .i64 0, .int .i64 0, .bool false, .int .u32 0, .int .u32 0, .int .u32 0, .int .u32 0, .int .u32 0, .int .u32 0, .int .u32 0, .int .u32 0, .int .u32 0, .int .i64 q.f, .int .i64 q.e, .int .i64 q.x, .int .i64 0, .int .i64 0, .int .i64 0, .int .i64 0, .int .i64 0, .int .i64 0] 85)))
      have hO10 : w10.ownsRow 0 85 25 (.slice (some ⟨g, 0, none⟩) L c) L (encW K) := by
        have h1 := (HRtB.out _ hbd).row
        rw [HKL.out] at h1
        rw [← hw10']
        exact ownsRow_keep h1 (fun b hb' => heap_setCell_other _ _ _ _ (fun e => HHH.out.ne (by rw [← (show b = R from e)]; exact hb')))
      have HO11 := hide (hO10.alloc (.cells #[.int .i64 (k : Int), .int .i64 s, .int .i64 (n : Int), .int .i64 0, .int .i64 0, .int .i64 0, .bool false, .int .u32 0, .int .u32 0, .int .u32 0, .int .u32 0, .int .u32 0, .int .u32 0, .int .u32 0, .int .u32 0, .int .u32 0, .int .i64 q.f, .int .i64 q.e, .int .i64 q.x, .int .i64 0, .int .i64 0, .int .i64 0, .int .i64 0, .int .i64 0, .int .i64 0] 85))
      have hgl : g < w10.heap.size := ownsRow_lt hO10 rfl
      have keepG : ∀ w12 b, (w10.alloc (.cells #[.int .i64 (k : Int), .int .i64 s, .int .i64 (n : Int), .int .i64 0, .int .i64 0, .int .i64 0, .bool false, .int .u32 0, .int .u32 0, .int .u32 0, .int .u32 0, .int .u32 0, .int .u32 0, .int .u32 0, .int .u32 0, .int .u32 0, .int .i64 q.f, .int .i64 q.e, .int .i64 q.x, .int .i64 0, .int .i64 0, .int .i64 0, .int .i64 0, .int .i64 0, .int .i64 0] 85)).grownBy w12 (Value.ownBlock (.slice (some ⟨g, 0, none⟩) L c)) → b < w10.heap.size → g ≠ b → w12.heap[b]? = (w10.alloc (.cells #[.int .i64 (k : Int), .int .i64 s, .int .i64 (n : Int), .int .i64 0, .int .i64 0, .int .i64 0, .bool false, .int .u32 0, .int .u32 0, .int .u32 0, .int .u32 0, .int .u32 0, .int .u32 0, .int .u32 0, .int .u32 0, .int .u32 0, .int .i64 q.f, .int .i64 q.e, .int .i64 q.x, .int .i64 0, .int .i64 0, .int .i64 0, .int .i64 0, .int .i64 0, .int .i64 0] 85)).heap[b]? := fun w12 b hg12 hb' hne => hg12.block b (by simp; omega) (fun e => hne (by simp [Value.ownBlock] at e; exact e.symm))
      have HSg : Hid (∀ w12, (w10.alloc (.cells #[.int .i64 (k : Int), .int .i64 s, .int .i64 (n : Int), .int .i64 0, .int .i64 0, .int .i64 0, .bool false, .int .u32 0, .int .u32 0, .int .u32 0, .int .u32 0, .int .u32 0, .int .u32 0, .int .u32 0, .int .u32 0, .int .u32 0, .int .i64 q.f, .int .i64 q.e, .int .i64 q.x, .int .i64 0, .int .i64 0, .int .i64 0, .int .i64 0, .int .i64 0, .int .i64 0] 85)).grownBy w12 (Value.ownBlock (.slice (some ⟨g, 0, none⟩) L c)) → (∃ u, w12.heap[R]? = some (.cells #[u, .int .i64 s] 83 (0, 0))) ∧ w12.heap[B]? = some (.cells #[.int .i64 q.f, .int .i64 q.e, .int .i64 q.x] 30 (0, 0))) := hide (fun w12 hg12 => ⟨⟨_, (keepG w12 R hg12 hRl HGB.out.1).trans HR11.out⟩, (keepG w12 B hg12 hBl HGB.out.2).trans HX11.out⟩)
      have HC12 : Hid (∀ w12, (w10.alloc (.cells #[.int .i64 (k : Int), .int .i64 s, .int .i64 (n : Int), .int .i64 0, .int .i64 0, .int .i64 0, .bool false, .int .u32 0, .int .u32 0, .int .u32 0, .int .u32 0, .int .u32 0, .int .u32 0, .int .u32 0, .int .u32 0, .int .u32 0, .int .i64 q.f, .int .i64 q.e, .int .i64 q.x, .int .i64 0, .int .i64 0, .int .i64 0, .int .i64 0, .int .i64 0, .int .i64 0] 85)).grownBy w12 (Value.ownBlock (.slice (some ⟨g, 0, none⟩) L c)) → w12.cell? ⟨R, 0, none⟩ = some (.slice (some ⟨g, 0, none⟩) L c)) := hide (fun w12 hg12 => top_cell ((keepG w12 R hg12 hRl HGB.out.1).trans HR11.out))
      have HF12 : Hid (∀ w12, (w10.alloc (.cells #[.int .i64 (k : Int), .int .i64 s, .int .i64 (n : Int), .int .i64 0, .int .i64 0, .int .i64 0, .bool false, .int .u32 0, .int .u32 0, .int .u32 0, .int .u32 0, .int .u32 0, .int .u32 0, .int .u32 0, .int .u32 0, .int .u32 0, .int .i64 q.f, .int .i64 q.e, .int .i64 q.x, .int .i64 0, .int .i64 0, .int .i64 0, .int .i64 0, .int .i64 0, .int .i64 0] 85)).grownBy w12 (Value.ownBlock (.slice (some ⟨g, 0, none⟩) L c)) → w12.frozen? ⟨R, 0, none⟩ = false) := hide (fun w12 hg12 => frozen_of_row _ _ _ _ _ ((keepG w12 R hg12 hRl HGB.out.1).trans HR11.out))
      have HSs : Hid (∀ w12 v2, (w10.alloc (.cells #[.int .i64 (k : Int), .int .i64 s, .int .i64 (n : Int), .int .i64 0, .int .i64 0, .int .i64 0, .bool false, .int .u32 0, .int .u32 0, .int .u32 0, .int .u32 0, .int .u32 0, .int .u32 0, .int .u32 0, .int .u32 0, .int .u32 0, .int .i64 q.f, .int .i64 q.e, .int .i64 q.x, .int .i64 0, .int .i64 0, .int .i64 0, .int .i64 0, .int .i64 0, .int .i64 0] 85)).grownBy w12 (Value.ownBlock (.slice (some ⟨g, 0, none⟩) L c)) → (∃ u, (w12.setCell ⟨R, 0, none⟩ v2).heap[R]? = some (.cells #[u, .int .i64 s] 83 (0, 0))) ∧ (w12.setCell ⟨R, 0, none⟩ v2).heap[B]? = some (.cells #[.int .i64 q.f, .int .i64 q.e, .int .i64 q.x] 30 (0, 0))) := hide (fun w12 v2 hg12 => ⟨⟨v2, by rw [heap_setCell_same _ R 0 _ _ v2 ((keepG w12 R hg12 hRl HGB.out.1).trans HR11.out)]; rfl⟩, by rw [heap_setCell_other _ _ _ _ HRB.out]; exact (keepG w12 B hg12 hBl HGB.out.2).trans HX11.out⟩)
      have HApp : Hid (∀ v2 w12, w12.ownsRow 0 85 25 v2 (L + 1) (encW K ++ (encW1 (k, Er.new s (n : Int) q))) → (w10.alloc (.cells #[.int .i64 (k : Int), .int .i64 s, .int .i64 (n : Int), .int .i64 0, .int .i64 0, .int .i64 0, .bool false, .int .u32 0, .int .u32 0, .int .u32 0, .int .u32 0, .int .u32 0, .int .u32 0, .int .u32 0, .int .u32 0, .int .u32 0, .int .i64 q.f, .int .i64 q.e, .int .i64 q.x, .int .i64 0, .int .i64 0, .int .i64 0, .int .i64 0, .int .i64 0, .int .i64 0] 85)).grownBy w12 (Value.ownBlock (.slice (some ⟨g, 0, none⟩) L c)) → (v2.ownBlock = (Value.slice (some ⟨g, 0, none⟩) L c).ownBlock ∨ v2.ownBlock = some (w10.alloc (.cells #[.int .i64 (k : Int), .int .i64 s, .int .i64 (n : Int), .int .i64 0, .int .i64 0, .int .i64 0, .bool false, .int .u32 0, .int .u32 0, .int .u32 0, .int .u32 0, .int .u32 0, .int .u32 0, .int .u32 0, .int .u32 0, .int .u32 0, .int .i64 q.f, .int .i64 q.e, .int .i64 q.x, .int .i64 0, .int .i64 0, .int .i64 0, .int .i64 0, .int .i64 0, .int .i64 0] 85)).heap.size) → RtA R ((rs.set k (some (Er.new s (n : Int) q))).set n (some { r with le := r.le.less (q.plus Qt.one) })) s (w12.setCell ⟨R, 0, none⟩ v2) (fun b => b = R ∨ v2.ownBlock = some b) ∧ Ext F w (fun b => b = R ∨ v2.ownBlock = some b) (w12.setCell ⟨R, 0, none⟩ v2)) := hide (fun v2 w12 ho12 hg12 hl12 => by
        rw [← hw10'] at hg12 hl12
        obtain ⟨p1, p2⟩ := RtAt.app (x := (k, Er.new s (n : Int) q)) HHH.out HHe.out hbd (by rw [HKL.out]; exact ho12) hg12 hl12
        refine ⟨⟨v2, _, ⟨p1.top, ?_, p1.ne⟩, HAgk.out, fun b => Iff.rfl⟩, p2⟩
        have h1 := p1.row
        rw [encW_app, ← HSm.out, ← encW_app] at h1
        rw [List.length_append, List.length_set, ← List.length_append]
        exact h1)
      have c10 := top_cell HR10.out
      have c11 := top_cell HR11.out
      clear hw10 hw10' hRl hBl hb11 hO10 hgl keepG hbd HR9 HR10 HR11 HX10 HX11 HSm HAgk HRtB HHH HHe HX7 HB7 HGB HRB HKp HFr HIx HRl HFF
      refine hd_take 0 (o := ⟨some 61, _, _, _, _, _⟩) (.pointer (some ⟨R, 0, none⟩)) (by kernel_rfl) (by kernel_rfl) (by kernel_rfl) rfl (by rfl) (fun W hSw => by go_simp) (fun _ _ _ h => h) HS10.out ?_
      simp only [Act.put, List.setIfInBounds_toArray, List.set_cons_zero, List.set_cons_succ]
      refine hd_take 1 (o := ⟨some 62, _, _, _, _, _⟩) (.pointer (some ⟨R, 0, none⟩)) (by kernel_rfl) (by kernel_rfl) (by kernel_rfl) rfl (by rfl) (fun W hSw => by go_simp) (fun _ _ _ h => h) HS10.out ?_
      simp only [Act.put, List.setIfInBounds_toArray, List.set_cons_zero, List.set_cons_succ]
      refine hd_take 2 (o := ⟨some 63, _, _, _, _, _⟩) (.pointer (some ⟨R, 0, none⟩)) (by kernel_rfl) (by kernel_rfl) (by kernel_rfl) rfl (by rfl) (fun W hSw => by go_simp) (fun _ _ _ h => h) HS10.out ?_
      simp only [Act.put, List.setIfInBounds_toArray, List.set_cons_zero, List.set_cons_succ]
      refine hd_take 3 (o := ⟨some 64, _, _, _, _, _⟩) (.pointer (some ⟨R, 0, none⟩)) (by kernel_rfl) (by kernel_rfl) (by kernel_rfl) rfl (by rfl) (fun W hSw => by go_simp) (fun _ _ _ h => h) HS10.out ?_
      simp only [Act.put, List.setIfInBounds_toArray, List.set_cons_zero, List.set_cons_succ]
      refine hd_take 5 (o := ⟨some 66, _, _, _, _, _⟩) (.int .i64 (k : Int)) (by kernel_rfl) (by kernel_rfl) (by kernel_rfl) rfl (by rfl) (fun W hSw => by go_simp) (fun _ _ _ h => h) HS10.out ?_
      simp only [Act.put, List.setIfInBounds_toArray, List.set_cons_zero, List.set_cons_succ]
      refine hd_take 6 (o := ⟨some 67, _, _, _, _, _⟩) (.int .i64 s) (by kernel_rfl) (by kernel_rfl) (by kernel_rfl) rfl (by rfl) (fun W hSw => by go_simp) (fun _ _ _ h => h) HS10.out ?_
      simp only [Act.put, List.setIfInBounds_toArray, List.set_cons_zero, List.set_cons_succ]
      refine hd_take 7 (o := ⟨some 68, _, _, _, _, _⟩) (.int .i64 (n : Int)) (by kernel_rfl) (by kernel_rfl) (by kernel_rfl) rfl (by rfl) (fun W hSw => by go_simp) (fun _ _ _ h => h) HS10.out ?_
      simp only [Act.put, List.setIfInBounds_toArray, List.set_cons_zero, List.set_cons_succ]
      refine hd_take 8 (o := ⟨some 69, _, _, _, _, _⟩) (q.val) (by kernel_rfl) (by kernel_rfl) (by kernel_rfl) rfl (by rfl) (fun W hSw => by exact run_loadT Tryz.underlying30 rfl (qtL q) infoQ _ rfl ⟨B, 0, none⟩ rfl (row_cells hSw.2)) (fun _ _ _ h => h) HS10.out ?_
      simp only [Act.put, List.setIfInBounds_toArray, List.set_cons_zero, List.set_cons_succ]
      refine hd_take 9 (o := ⟨some 70, _, _, _, _, _⟩) (.agg #[.int .i64 s, .int .i64 (n : Int), .int .i64 0, .int .i64 0, .int .i64 0, .bool false, .int .u32 0, .int .u32 0, .int .u32 0, .int .u32 0, .int .u32 0, .int .u32 0, .int .u32 0, .int .u32 0, .int .u32 0, .int .i64 q.f, .int .i64 q.e, .int .i64 q.x, .int .i64 0, .int .i64 0, .int .i64 0]) (by kernel_rfl) (by kernel_rfl) (by kernel_rfl) rfl (by rfl) (fun W hSw => by unfold Qt.val; go_simp) (fun _ _ _ h => h) HS10.out ?_
      simp only [Act.put, List.setIfInBounds_toArray, List.set_cons_zero, List.set_cons_succ]
      refine hd_take 10 (o := ⟨some 71, _, _, _, _, _⟩) (.agg #[.int .i64 (k : Int), .int .i64 s, .int .i64 (n : Int), .int .i64 0, .int .i64 0, .int .i64 0, .bool false, .int .u32 0, .int .u32 0, .int .u32 0, .int .u32 0, .int .u32 0, .int .u32 0, .int .u32 0, .int .u32 0, .int .u32 0, .int .i64 q.f, .int .i64 q.e, .int .i64 q.x, .int .i64 0, .int .i64 0, .int .i64 0, .int .i64 0, .int .i64 0, .int .i64 0]) (by kernel_rfl) (by kernel_rfl) (by kernel_rfl) rfl (by rfl) (fun W hSw => by go_simp) (fun _ _ _ h => h) HS10.out ?_
      simp only [Act.put, List.setIfInBounds_toArray, List.set_cons_zero, List.set_cons_succ]
      refine hd_both 4 11 (o1 := ⟨some 65, _, _, _, _, _⟩) (o2 := ⟨some 72, _, _, _, _, _⟩) (by kernel_rfl) rfl rfl (by rfl) (by rfl) (fun K' hK => ?_) (fun K' hK => ?_)
      · skip
        go_simp
        refine hK _ _ HS10.out ?_
        clear hK K'
        try simp only [Act.put, List.setIfInBounds_toArray, List.set_cons_zero, List.set_cons_succ]
        refine hd_call 11 (o := ⟨some 72, _, _, _, _, _⟩) (by kernel_rfl) rfl (by rfl) (fun K' hK => ?_)
        go_simp
        refine hK _ _ HS11.out ?_
        clear hK K'
        try simp only [Act.put, List.setIfInBounds_toArray, List.set_cons_zero, List.set_cons_succ]
        refine hd_call 12 (o := ⟨some 73, _, _, _, _, _⟩) (by kernel_rfl) rfl (by rfl) (fun K' hK => ?_)
        refine oper_append _ _ 81 rfl 0 85 iR (.agg (encW1 (0, Er.nil)).toArray) 25 160 Tryz.underlying81 hiR hzR hsR hbR rfl (by decide) (.slice (some ⟨g, 0, none⟩) L c) L (encW K) rfl HO11.out ⟨w10.heap.size, 0, none⟩ 1 1 (encW1 (k, Er.new s (n : Int) q)) rfl rfl HN11.out (encW1_one _) (by unfold maxLen; have := HLL.out; omega) (by have := HLL.out; omega) (Nat.zero_le _) (fun v2 w12 ho12 hg12 hl12 => ?_)
        obtain ⟨a2, c2, rfl⟩ := own_shape ho12
        obtain ⟨p1, p2⟩ := HApp.out (.slice a2 (L + 1) c2) w12 ho12 hg12 hl12
        have HS12 := hide (HSg.out w12 hg12)
        have HS13 := hide (HSs.out w12 (.slice a2 (L + 1) c2) hg12)
        have HP1 := hide p1
        have HP2 := hide p2
        have h12R : w12.cell? ⟨R, 0, none⟩ = some (.slice (some ⟨g, 0, none⟩) L c) := HC12.out w12 hg12
        have f12R : w12.frozen? ⟨R, 0, none⟩ = false := HF12.out w12 hg12
        clear ho12 hg12 hl12 p1 p2
        refine hK _ _ HS12.out ?_
        clear hK K'
        try simp only [Act.put, List.setIfInBounds_toArray, List.set_cons_zero, List.set_cons_succ]
        refine hd_take 13 (o := ⟨some 74, _, _, _, _, _⟩) (.pointer (some ⟨R, 0, none⟩)) (by kernel_rfl) (by kernel_rfl) (by kernel_rfl) rfl (by rfl) (fun W hSw => by go_simp) (fun _ _ _ h => h) HS12.out ?_
        simp only [Act.put, List.setIfInBounds_toArray, List.set_cons_zero, List.set_cons_succ]
        refine hd_take 14 (o := ⟨some 75, _, _, _, _, _⟩) (.pointer (some ⟨R, 0, none⟩)) (by kernel_rfl) (by kernel_rfl) (by kernel_rfl) rfl (by rfl) (fun W hSw => by go_simp) (fun _ _ _ h => h) HS12.out ?_
        simp only [Act.put, List.setIfInBounds_toArray, List.set_cons_zero, List.set_cons_succ]
        refine hd_call 15 (o := ⟨none, _, _, _, _, _⟩) (by kernel_rfl) rfl (by rfl) (fun K' hK => ?_)
        go_simp
        refine hK _ _ HS13.out ?_
        clear hK K'
        try simp only [Act.put]
        refine wpAnyH_done (by kernel_rfl) ?_ _
        clear HS13 HS12 h12R f12R
        generalize w12.setCell ⟨R, 0, none⟩ (.slice a2 (L + 1) c2) = w13 at *
        go_wp2
        go_ret2
        exact ⟨by rw [HFk.out]; rfl, fun b => b = R ∨ (Value.slice a2 (L + 1) c2).ownBlock = some b, by rw [HFk.out]; exact HP1.out, HP2.out⟩
      · skip
        go_simp
        refine hK _ _ HS11.out ?_
        clear hK K'
        try simp only [Act.put, List.setIfInBounds_toArray, List.set_cons_zero, List.set_cons_succ]
        refine hd_call 4 (o := ⟨some 65, _, _, _, _, _⟩) (by kernel_rfl) rfl (by rfl) (fun K' hK => ?_)
        go_simp
        refine hK _ _ HS11.out ?_
        clear hK K'
        try simp only [Act.put, List.setIfInBounds_toArray, List.set_cons_zero, List.set_cons_succ]
        refine hd_call 12 (o := ⟨some 73, _, _, _, _, _⟩) (by kernel_rfl) rfl (by rfl) (fun K' hK => ?_)
        refine oper_append _ _ 81 rfl 0 85 iR (.agg (encW1 (0, Er.nil)).toArray) 25 160 Tryz.underlying81 hiR hzR hsR hbR rfl (by decide) (.slice (some ⟨g, 0, none⟩) L c) L (encW K) rfl HO11.out ⟨w10.heap.size, 0, none⟩ 1 1 (encW1 (k, Er.new s (n : Int) q)) rfl rfl HN11.out (encW1_one _) (by unfold maxLen; have := HLL.out; omega) (by have := HLL.out; omega) (Nat.zero_le _) (fun v2 w12 ho12 hg12 hl12 => ?_)
        obtain ⟨a2, c2, rfl⟩ := own_shape ho12
        obtain ⟨p1, p2⟩ := HApp.out (.slice a2 (L + 1) c2) w12 ho12 hg12 hl12
        have HS12 := hide (HSg.out w12 hg12)
        have HS13 := hide (HSs.out w12 (.slice a2 (L + 1) c2) hg12)
        have HP1 := hide p1
        have HP2 := hide p2
        have h12R : w12.cell? ⟨R, 0, none⟩ = some (.slice (some ⟨g, 0, none⟩) L c) := HC12.out w12 hg12
        have f12R : w12.frozen? ⟨R, 0, none⟩ = false := HF12.out w12 hg12
        clear ho12 hg12 hl12 p1 p2
        refine hK _ _ HS12.out ?_
        clear hK K'
        try simp only [Act.put, List.setIfInBounds_toArray, List.set_cons_zero, List.set_cons_succ]
        refine hd_take 13 (o := ⟨some 74, _, _, _, _, _⟩) (.pointer (some ⟨R, 0, none⟩)) (by kernel_rfl) (by kernel_rfl) (by kernel_rfl) rfl (by rfl) (fun W hSw => by go_simp) (fun _ _ _ h => h) HS12.out ?_
        simp only [Act.put, List.setIfInBounds_toArray, List.set_cons_zero, List.set_cons_succ]
        refine hd_take 14 (o := ⟨some 75, _, _, _, _, _⟩) (.pointer (some ⟨R, 0, none⟩)) (by kernel_rfl) (by kernel_rfl) (by kernel_rfl) rfl (by rfl) (fun W hSw => by go_simp) (fun _ _ _ h => h) HS12.out ?_
        simp only [Act.put, List.setIfInBounds_toArray, List.set_cons_zero, List.set_cons_succ]
        refine hd_call 15 (o := ⟨none, _, _, _, _, _⟩) (by kernel_rfl) rfl (by rfl) (fun K' hK => ?_)
        go_simp
        refine hK _ _ HS13.out ?_
        clear hK K'
        try simp only [Act.put]
        refine wpAnyH_done (by kernel_rfl) ?_ _
        clear HS13 HS12 h12R f12R
        generalize w12.setCell ⟨R, 0, none⟩ (.slice a2 (L + 1) c2) = w13 at *
        go_wp2
        go_ret2
        exact ⟨by rw [HFk.out]; rfl, fun b => b = R ∨ (Value.slice a2 (L + 1) c2).ownBlock = some b, by rw [HFk.out]; exact HP1.out, HP2.out⟩
    · exact absurd HFF.out (ff_no HRl.out hno)

  · obtain ⟨r', hr'⟩ := HEx.out
    exact absurd hr' (hno n r' rfl)
end
end Go.Proofs.YtbocpmcodlceoaaGreat

namespace Go.Proofs.YtbocpmcodlceoaaGreat
open Go.ChangeShapes Go.WideShapes Go.ChangeAt Go.RowKit Go.Deep Go.Shelf

def gk (ws : List Nat) (y : Rw) : Bool := !decide (y.1 ∈ ws)
theorem num_cell {W : World} {gw nw cw j z : Nat} {ws : List Nat} (h : W.ownsRow 0 3 1 (.slice (some ⟨gw, 0, none⟩) nw cw) nw (numN ws)) (hz : ws[j]? = some z) : W.cell? ⟨gw, j, none⟩ = some (.int .i64 (z : Int)) := by
  have := World.ownsRow.cells h rfl j (.int .i64 (z : Int)) (by simp [numN, hz])
  rw [add0] at this
  exact this
theorem own_up {w : World} {base base' e size g n c : Nat} {xs : List Value} (h : w.ownsRow base e size (.slice (some ⟨g, 0, none⟩) n c) n xs) (hb : base' ≤ g) : w.ownsRow base' e size (.slice (some ⟨g, 0, none⟩) n c) n xs := by
  obtain ⟨hl, ⟨h0, _⟩ | ⟨g', cp, cur, h0, h1, h2⟩⟩ := h
  · cases h0
  · cases h0
    exact ⟨hl, .inr ⟨g, c, cur, rfl, hb, h2⟩⟩
theorem infoRow2 : (Tryz.prog.info? 85).map (·.size) = some 25 := by kernel_rfl
section
variable {rs : List (Option Er)} {K : List Rw} {last : Int}
theorem Ag.drops (ha : Ag rs K) (ws : List Nat) : Ag (Go.Proofs.YtbocpmcodlceoaaGreat.drops rs ws) (K.filter (gk ws)) := by
  refine ⟨ha.srt.sublist List.filter_sublist, fun m e => ?_⟩
  rw [List.mem_filter, ha.mem]
  by_cases hm : m ∈ ws
  · have h1 : gk ws (m, e) = false := by simp [gk, hm]
    rw [h1]
    constructor
    · rintro ⟨_, h2⟩; cases h2
    · intro h2
      by_cases hl : m < rs.length
      · rw [drops_gone ws rs m hm hl] at h2; cases h2
      · rw [List.getElem?_eq_none (by rw [drops_len]; omega)] at h2; cases h2
  · have h1 : gk ws (m, e) = true := by simp [gk, hm]
    rw [h1, drops_other ws rs m hm]
    exact ⟨fun h => h.1, fun h => ⟨h, rfl⟩⟩
theorem encW_fil (ws : List Nat) : ∀ (K : List Rw) (i : Nat) (x y : Rw), K[i]? = some x → y.1 = x.1 → encW1 y = encW1 x → encW ((K.set i y).filter (gk ws)) = encW (K.filter (gk ws)) ∧ ((K.set i y).filter (gk ws)).length = (K.filter (gk ws)).length
  | [], i, x, y, h, _, _ => by simp at h
  | a :: r, 0, x, y, h, h1, h2 => by
    simp at h
    subst h
    have e1 : gk ws y = gk ws a := by unfold gk; rw [h1]
    rw [List.set_cons_zero, List.filter_cons, List.filter_cons, e1]
    by_cases hg : gk ws a = true
    · rw [if_pos hg, if_pos hg]
      exact ⟨by show encW1 y ++ _ = encW1 a ++ _; rw [h2], rfl⟩
    · rw [if_neg hg, if_neg hg]
      exact ⟨rfl, rfl⟩
  | a :: r, i + 1, x, y, h, h1, h2 => by
    obtain ⟨p1, p2⟩ := encW_fil ws r i x y (by simpa using h) h1 h2
    rw [List.set_cons_succ, List.filter_cons, List.filter_cons]
    by_cases hg : gk ws a = true
    · rw [if_pos hg, if_pos hg]
      exact ⟨by show encW1 a ++ encW _ = encW1 a ++ encW _; rw [p1], by simp [p2]⟩
    · rw [if_neg hg, if_neg hg]
      exact ⟨p1, p2⟩
theorem gk_yes {ws : List Nat} {k a : Nat} {r : Er} (h : K[k]? = some (a, r)) (hp : a ∉ ws) : (K.take (k + 1)).filter (gk ws) = (K.take k).filter (gk ws) ++ [(a, r)] := by
  rw [take_get h, List.filter_append]; simp [gk, hp]
theorem gk_no {ws : List Nat} {k a : Nat} {r : Er} (h : K[k]? = some (a, r)) (hp : a ∈ ws) : (K.take (k + 1)).filter (gk ws) = (K.take k).filter (gk ws) := by
  rw [take_get h, List.filter_append]; simp [gk, hp]
theorem fil_len (ws : List Nat) (k : Nat) : ((K.take k).filter (gk ws)).length ≤ k := Nat.le_trans (List.length_filter_le _ _) (by rw [List.length_take]; omega)
end
section
variable {w : World} {R : Nat} {v : Value} {K : List Rw} {last : Int} {rs : List (Option Er)} {F : Nat → Prop}
set_option maxHeartbeats 3200000 in
theorem destroyD_none (h : RtA R rs last w F) (hl : rs.length = 16) (e : Int) (hn : look rs e = none)  : Calls Tryz.prog 17 #[tp R, .int .i64 e] w fun x w' => x = .returned (.tuple #[.slice none 0 0, .int .i64 90]) ∧ w' = w := by
  obtain ⟨v, K, h, ha, he⟩ := h
  have HAt := hide (atb_any h ha hl e)
  have HN : Hid (∀ (n : Nat) (r : Er), e = (n : Int) → rs[n]? ≠ some (some r)) := hide (fun n r en hr => by
    rw [en, look_nat, hr] at hn; cases hn)
  clear h ha he hl hn
  go_enter Tryz.func17, Tryz.ntmps17
  go_wp2_with fail
  refine HAt.out.mono ?_
  rintro e1 w2 ⟨hw2, ⟨i, n, r, -, -, hen, hr⟩ | ⟨rfl, -⟩⟩
  · exact absurd hr (HN.out n r hen)
  · subst hw2
    clear HAt HN
    go_wp2
    go_ret2
    exact ⟨rfl, rfl⟩
set_option maxHeartbeats 3200000 in
theorem destroyD_zero (h : RtA R rs last w F) (hl : rs.length = 16) (r : Er) (hr : rs[0]? = some (some r)) : Calls Tryz.prog 17 #[tp R, .int .i64 0] w fun x w' => x = .returned (.tuple #[.slice none 0 0, .int .i64 92]) ∧ w' = w := by
  obtain ⟨v, K, h, ha, he⟩ := h
  obtain ⟨i, hi⟩ := List.getElem?_of_mem ((ha.mem 0 r).2 hr)
  have HAt : Hid (Calls Tryz.prog 59 #[tp R, .int .i64 0] w fun x w' => x = .returned (.int .i64 (i : Int)) ∧ w' = w) := hide (at_yes h ha hl hi)
  clear h ha he hl hi hr
  go_enter Tryz.func17, Tryz.ntmps17
  go_wp2_with fail
  refine HAt.out.mono ?_
  rintro e1 w1 ⟨rfl, rfl⟩
  go_wp2
  go_ret2
  exact ⟨rfl, rfl⟩
set_option maxRecDepth 100000 in
set_option maxHeartbeats 6400000 in
theorem destroyD_ok (h : RtA R rs last w F) (iv : Iv rs last) (n : Nat) (r : Er) (hr : rs[n]? = some (some r)) (hn0 : n ≠ 0) : Calls Tryz.prog 17 #[tp R, .int .i64 (n : Int)] w fun x w' => ∃ v F', x = .returned (.tuple #[v, .int .i64 0]) ∧ RtA R (drops (dsP rs r) (wk rs 17 n)) last w' F' ∧ Ext F w F' w' ∧ w'.ownsRow w.heap.size 3 1 v (wk rs 17 n).length (numN (wk rs 17 n)) := by
  obtain ⟨v, K, h, ha, he⟩ := h
  obtain ⟨i, hi⟩ := List.getElem?_of_mem ((ha.mem n r).2 hr)
  obtain ⟨iR, hiR, hzR, hsR, hbR⟩ := infoRow
  have hl := ha.len iv.tr.len
  have HAt := hide (at_yes h ha iv.tr.len hi)
  have HW : Hid (Calls Tryz.prog 67 #[tp R, .int .i64 (n : Int), .int .i64 0] w fun x w' => ∃ v, x = .returned v ∧ w'.ownsRow w.heap.size 3 1 v (wk rs 17 n).length (numN (wk rs 17 n)) ∧ Below w.heap.size w w') := hide (by
    have h1 := walkD_any iv.tr ha 16 0 rfl n w h
    rw [wk_16 iv.tr ⟨r, hr⟩] at h1
    exact h1)
  have HWl : Hid ((wk rs 17 n).length ≤ 16 ∧ 0 < (wk rs 17 n).length) := hide ⟨wk_len iv.tr 17 ⟨r, hr⟩, List.length_pos_of_mem (wk_self 17 n)⟩
  obtain ⟨ws, hws⟩ : ∃ ws, wk rs 17 n = ws := ⟨_, rfl⟩
  have HAg : Hid (∃ K2, Ag (drops (dsP rs r) ws) K2 ∧ encW K2 = encW (K.filter (gk ws)) ∧ K2.length = (K.filter (gk ws)).length) := hide (by
    obtain ⟨p, rp, e1, hp, -⟩ := par_of iv hr hn0
    obtain ⟨ip, hip⟩ := List.getElem?_of_mem ((ha.mem p rp).2 hp)
    rw [dsP_at e1 hp]
    have h1 := (ha.set (r' := { rp with le := rp.le.plus (r.qu.plus Qt.one) }) hip hp rfl).drops ws
    obtain ⟨q1, q2⟩ := encW_fil ws K ip (p, rp) (p, { rp with le := rp.le.plus (r.qu.plus Qt.one) }) hip rfl rfl
    exact ⟨_, h1, q1, q2⟩)
  rw [hws] at HW HWl ⊢
  have HRt := hide (fun W (hW : Below w.heap.size w W) => h.below hW)
  have hnb : ((n : Int) == 0) = false := by simp [hn0]
  have HHe := hide he
  have HRl := hide h.lt
  obtain ⟨g, c, hv, -⟩ := h.at hi
  obtain ⟨L, hL⟩ : ∃ L, K.length = L := ⟨_, rfl⟩
  rw [hL] at hv hl
  have HL := hide hL
  subst hv
  clear h ha he hi hr iv hn0 hws hL
  go_enter Tryz.func17, Tryz.ntmps17
  go_wp2_with fail
  refine HAt.out.mono ?_
  rintro e1 w1 ⟨rfl, hw1⟩
  subst hw1
  go_wp2_with fail
  refine HW.out.mono ?_
  rintro e1 w2 ⟨wv, rfl, hwv, hb2⟩
  obtain ⟨gw, cw, rfl⟩ : ∃ gw cw, wv = .slice (some ⟨gw, 0, none⟩) ws.length cw := by
    obtain ⟨_, ⟨_, h0⟩ | ⟨g, cp, cur, h0, _⟩⟩ := hwv
    · have := HWl.out.2; omega
    · exact ⟨g, cp, h0⟩
  have HGw : Hid (w1.heap.size ≤ gw) := hide (World.ownsRow.lt hwv gw rfl).1
  obtain ⟨nw, hnw⟩ : ∃ nw, ws.length = nw := ⟨_, rfl⟩
  have HNW := hide hnw
  rw [hnw] at hwv HWl ⊢
  have hnw16 := HWl.out.1
  have HV0 : Hid (Below w1.heap.size w1 w2 ∧ RtAt w2 R (.slice (some ⟨g, 0, none⟩) L c) K last ∧ w2.ownsRow 0 3 1 (.slice (some ⟨gw, 0, none⟩) nw cw) nw (numN ws)) := hide ⟨hb2, HRt.out w2 hb2, own_low hwv (Nat.zero_le _)⟩
  clear hwv hb2 HW HAt hnw HWl
  go_upto_region 9 with fail
  go_loopw [8, 9] (fun u x wr => ∃ k : Nat, k ≤ L ∧ x = .int .i64 (k : Int) ∧ ∃ (m : Nat) (a2 : Option Addr) (c2 : Nat), u = .slice a2 m c2 ∧ m ≤ k ∧ Hid (m = ((K.take k).filter (gk ws)).length ∧ wr.ownsRow w1.heap.size 85 25 (.slice a2 m c2) m (encW ((K.take k).filter (gk ws))) ∧ (Value.slice a2 m c2).ownBlock ≠ some gw) ∧ Hid (Below w1.heap.size w1 wr ∧ RtAt wr R (.slice (some ⟨g, 0, none⟩) L c) K last ∧ wr.ownsRow 0 3 1 (.slice (some ⟨gw, 0, none⟩) nw cw) nw (numN ws))) (fun _ x _ => L - (intOf x).toNat)
  case atStart => exact ⟨0, by omega, rfl, 0, none, 0, rfl, by omega, hide ⟨by simp, World.ownsRow_nil _ _ _ _, by simp [Value.ownBlock]⟩, HV0⟩
  case round =>
  clear HV0
  obtain ⟨k, hk, rfl, m, a2, c2, rfl, hm, KA, KI⟩ := hrel
  have c16 := KI.out.2.1.rowc
  by_cases hlt : k < L
  · have hd : decide ((k : Int) < (L : Int)) = true := by simp; omega
    have hki : (k : Int) < (L : Int) := by omega
    obtain ⟨⟨ya, yr⟩, hy⟩ : ∃ y, K[k]? = some y := ⟨_, List.getElem?_eq_getElem (by rw [HL.out]; exact hlt)⟩
    have HY := hide hy
    clear hy
    go_upto_region 13 with fail
    clear c16
    have HK0 : Hid (wr.ownsRow w1.heap.size 85 25 (.slice a2 m c2) m (encW ((K.take k).filter (gk ws))) ∧ Below w1.heap.size w1 wr ∧ RtAt wr R (.slice (some ⟨g, 0, none⟩) L c) K last ∧ wr.ownsRow 0 3 1 (.slice (some ⟨gw, 0, none⟩) nw cw) nw (numN ws)) := hide ⟨KA.out.2.1, KI.out⟩
    have HKm : Hid (m = ((K.take k).filter (gk ws)).length ∧ (Value.slice a2 m c2).ownBlock ≠ some gw) := hide ⟨KA.out.1, KA.out.2.2⟩
    clear KA KI
    go_loopw [10, 11] (fun y x wr => ∃ j : Nat, j ≤ nw ∧ x = .int .i64 (j : Int) ∧ y = .bool (decide (ya ∈ ws.take j)) ∧ Hid (wr.ownsRow w1.heap.size 85 25 (.slice a2 m c2) m (encW ((K.take k).filter (gk ws))) ∧ Below w1.heap.size w1 wr ∧ RtAt wr R (.slice (some ⟨g, 0, none⟩) L c) K last ∧ wr.ownsRow 0 3 1 (.slice (some ⟨gw, 0, none⟩) nw cw) nw (numN ws))) (fun _ x _ => nw - (intOf x).toNat)
    case atStart => exact ⟨0, by omega, rfl, by simp, HK0⟩
    case round =>
    clear HK0
    obtain ⟨j, hj, rfl, rfl, KJ⟩ := hrel
    by_cases hjl : j < nw
    · have hdj : decide ((j : Int) < (nw : Int)) = true := by simp; omega
      have hjI : (j : Int) < (nw : Int) := by omega
      obtain ⟨z, hz⟩ : ∃ z, ws[j]? = some z := ⟨_, List.getElem?_eq_getElem (by rw [HNW.out]; exact hjl)⟩
      have HZ := hide hz
      have HT := hide (take_get hz)
      clear hz
      go_upto_region 15 with fail
      refine wp_region_held_drew (S := fun W : World => RtAt W R (.slice (some ⟨g, 0, none⟩) L c) K last ∧ W.ownsRow 0 3 1 (.slice (some ⟨gw, 0, none⟩) nw cw) nw (numN ws)) (by kernel_rfl) ⟨KJ.out.2.2.1.below (below_drew _), own_below KJ.out.2.2.2 (below_drew _)⟩ (fun _ => ?_)
      generalize hw2 : wr.drew = w3
      have hb3 : Below wr.heap.size wr w3 := by rw [← hw2]; exact below_drew _
      have HS2 : Hid (RtAt w3 R (.slice (some ⟨g, 0, none⟩) L c) K last ∧ w3.ownsRow 0 3 1 (.slice (some ⟨gw, 0, none⟩) nw cw) nw (numN ws)) := hide ⟨KJ.out.2.2.1.below hb3, own_below KJ.out.2.2.2 hb3⟩
      have HE3 : Hid (w3.ownsRow w1.heap.size 85 25 (.slice a2 m c2) m (encW ((K.take k).filter (gk ws))) ∧ Below w1.heap.size w1 w3 ∧ RtAt w3 R (.slice (some ⟨g, 0, none⟩) L c) K last ∧ w3.ownsRow 0 3 1 (.slice (some ⟨gw, 0, none⟩) nw cw) nw (numN ws)) := hide ⟨own_below KJ.out.1 hb3, KJ.out.2.1.trans (hb3.mono KJ.out.2.1.size), HS2.out⟩
      clear hw2 hb3 KJ
      by_cases t1 : (z : Int) = (ya : Int)
      · have t1' : ((z : Int) == (ya : Int)) = true := by simp [t1]
        have HD2 : Hid (decide (ya ∈ ws.take (j + 1)) = true) := hide (by
          have : ya = z := by omega
          rw [HT.out, this]; simp)
        clear t1
        refine hd_take 0 (o := ⟨some 37, _, _, _, _, _⟩) (.slice (some ⟨gw, 0, none⟩) nw cw) (by kernel_rfl) (by kernel_rfl) (by kernel_rfl) rfl (by rfl) (fun W hSw => by go_simp) (fun _ _ _ h => h) HS2.out ?_
        simp only [Act.put, List.setIfInBounds_toArray, List.set_cons_zero, List.set_cons_succ]
        refine hd_take 1 (o := ⟨some 38, _, _, _, _, _⟩) (.int .i64 (j : Int)) (by kernel_rfl) (by kernel_rfl) (by kernel_rfl) rfl (by rfl) (fun W hSw => by go_simp) (fun _ _ _ h => h) HS2.out ?_
        simp only [Act.put, List.setIfInBounds_toArray, List.set_cons_zero, List.set_cons_succ]
        refine hd_take 2 (o := ⟨some 39, _, _, _, _, _⟩) (.pointer (some ⟨gw, j, none⟩)) (by kernel_rfl) (by kernel_rfl) (by kernel_rfl) rfl (by rfl) (fun W hSw => by go_simp) (fun _ _ _ h => h) HS2.out ?_
        simp only [Act.put, List.setIfInBounds_toArray, List.set_cons_zero, List.set_cons_succ]
        refine hd_take 3 (o := ⟨some 40, _, _, _, _, _⟩) (.int .i64 (z : Int)) (by kernel_rfl) (by kernel_rfl) (by kernel_rfl) rfl (by rfl) (fun W hSw => by have s1 := num_cell hSw.2 HZ.out; go_simp) (fun _ _ _ h => h) HS2.out ?_
        simp only [Act.put, List.setIfInBounds_toArray, List.set_cons_zero, List.set_cons_succ]
        refine hd_take 4 (o := ⟨some 41, _, _, _, _, _⟩) (.pointer (some ⟨R, 0, none⟩)) (by kernel_rfl) (by kernel_rfl) (by kernel_rfl) rfl (by rfl) (fun W hSw => by go_simp) (fun _ _ _ h => h) HS2.out ?_
        simp only [Act.put, List.setIfInBounds_toArray, List.set_cons_zero, List.set_cons_succ]
        refine hd_take 5 (o := ⟨some 42, _, _, _, _, _⟩) (.pointer (some ⟨R, 0, none⟩)) (by kernel_rfl) (by kernel_rfl) (by kernel_rfl) rfl (by rfl) (fun W hSw => by go_simp) (fun _ _ _ h => h) HS2.out ?_
        simp only [Act.put, List.setIfInBounds_toArray, List.set_cons_zero, List.set_cons_succ]
        refine hd_take 6 (o := ⟨some 43, _, _, _, _, _⟩) (.pointer (some ⟨R, 0, none⟩)) (by kernel_rfl) (by kernel_rfl) (by kernel_rfl) rfl (by rfl) (fun W hSw => by go_simp) (fun _ _ _ h => h) HS2.out ?_
        simp only [Act.put, List.setIfInBounds_toArray, List.set_cons_zero, List.set_cons_succ]
        refine hd_take 7 (o := ⟨some 44, _, _, _, _, _⟩) (.slice (some ⟨g, 0, none⟩) L c) (by kernel_rfl) (by kernel_rfl) (by kernel_rfl) rfl (by rfl) (fun W hSw => by have s1 := hSw.1.rowc; go_simp) (fun _ _ _ h => h) HS2.out ?_
        simp only [Act.put, List.setIfInBounds_toArray, List.set_cons_zero, List.set_cons_succ]
        refine hd_take 8 (o := ⟨some 45, _, _, _, _, _⟩) (.int .i64 (k : Int)) (by kernel_rfl) (by kernel_rfl) (by kernel_rfl) rfl (by rfl) (fun W hSw => by go_simp) (fun _ _ _ h => h) HS2.out ?_
        simp only [Act.put, List.setIfInBounds_toArray, List.set_cons_zero, List.set_cons_succ]
        refine hd_take 9 (o := ⟨some 46, _, _, _, _, _⟩) (.pointer (some ⟨g, k * 25, none⟩)) (by kernel_rfl) (by kernel_rfl) (by kernel_rfl) rfl (by rfl) (fun W hSw => by go_simp) (fun _ _ _ h => h) HS2.out ?_
        simp only [Act.put, List.setIfInBounds_toArray, List.set_cons_zero, List.set_cons_succ]
        refine hd_take 10 (o := ⟨some 47, _, _, _, _, _⟩) (.pointer (some ⟨g, k * 25, none⟩)) (by kernel_rfl) (by kernel_rfl) (by kernel_rfl) rfl (by rfl) (fun W hSw => by go_simp) (fun _ _ _ h => h) HS2.out ?_
        simp only [Act.put, List.setIfInBounds_toArray, List.set_cons_zero, List.set_cons_succ]
        refine hd_take 11 (o := ⟨some 48, _, _, _, _, _⟩) (.int .i64 (ya : Int)) (by kernel_rfl) (by kernel_rfl) (by kernel_rfl) rfl (by rfl) (fun W hSw => by have s1 := rt_cell0 hSw.1 HY.out; go_simp) (fun _ _ _ h => h) HS2.out ?_
        simp only [Act.put, List.setIfInBounds_toArray, List.set_cons_zero, List.set_cons_succ]
        refine hd_take 12 (o := ⟨some 49, _, _, _, _, _⟩) (.bool true) (by kernel_rfl) (by kernel_rfl) (by kernel_rfl) rfl (by rfl) (fun W hSw => by go_simp) (fun _ _ _ h => h) HS2.out ?_
        simp only [Act.put, List.setIfInBounds_toArray, List.set_cons_zero, List.set_cons_succ]
        refine wpAnyH_done (by kernel_rfl) ?_ _
        clear t1' HS2
        go_wp2
        go_roundw
        case rel => first | exact ⟨j + 1, by omega, by go_num, by rw [HD2.out], HE3⟩ | ((repeat apply Exists.intro); refine ⟨?_, rfl⟩; exact ⟨j + 1, by omega, by go_num, by rw [HD2.out], HE3⟩)
        case measure => simp [intOf]; omega
      · have t1' : ((z : Int) == (ya : Int)) = false := by rw [beq_eq_false_iff_ne]; exact t1
        have HD2 : Hid (decide (ya ∈ ws.take (j + 1)) = decide (ya ∈ ws.take j)) := hide (by
          have hne : ¬ ya = z := fun e => t1 (by omega)
          rw [HT.out]
          simp [hne])
        clear t1
        refine hd_take 0 (o := ⟨some 37, _, _, _, _, _⟩) (.slice (some ⟨gw, 0, none⟩) nw cw) (by kernel_rfl) (by kernel_rfl) (by kernel_rfl) rfl (by rfl) (fun W hSw => by go_simp) (fun _ _ _ h => h) HS2.out ?_
        simp only [Act.put, List.setIfInBounds_toArray, List.set_cons_zero, List.set_cons_succ]
        refine hd_take 1 (o := ⟨some 38, _, _, _, _, _⟩) (.int .i64 (j : Int)) (by kernel_rfl) (by kernel_rfl) (by kernel_rfl) rfl (by rfl) (fun W hSw => by go_simp) (fun _ _ _ h => h) HS2.out ?_
        simp only [Act.put, List.setIfInBounds_toArray, List.set_cons_zero, List.set_cons_succ]
        refine hd_take 2 (o := ⟨some 39, _, _, _, _, _⟩) (.pointer (some ⟨gw, j, none⟩)) (by kernel_rfl) (by kernel_rfl) (by kernel_rfl) rfl (by rfl) (fun W hSw => by go_simp) (fun _ _ _ h => h) HS2.out ?_
        simp only [Act.put, List.setIfInBounds_toArray, List.set_cons_zero, List.set_cons_succ]
        refine hd_take 3 (o := ⟨some 40, _, _, _, _, _⟩) (.int .i64 (z : Int)) (by kernel_rfl) (by kernel_rfl) (by kernel_rfl) rfl (by rfl) (fun W hSw => by have s1 := num_cell hSw.2 HZ.out; go_simp) (fun _ _ _ h => h) HS2.out ?_
        simp only [Act.put, List.setIfInBounds_toArray, List.set_cons_zero, List.set_cons_succ]
        refine hd_take 4 (o := ⟨some 41, _, _, _, _, _⟩) (.pointer (some ⟨R, 0, none⟩)) (by kernel_rfl) (by kernel_rfl) (by kernel_rfl) rfl (by rfl) (fun W hSw => by go_simp) (fun _ _ _ h => h) HS2.out ?_
        simp only [Act.put, List.setIfInBounds_toArray, List.set_cons_zero, List.set_cons_succ]
        refine hd_take 5 (o := ⟨some 42, _, _, _, _, _⟩) (.pointer (some ⟨R, 0, none⟩)) (by kernel_rfl) (by kernel_rfl) (by kernel_rfl) rfl (by rfl) (fun W hSw => by go_simp) (fun _ _ _ h => h) HS2.out ?_
        simp only [Act.put, List.setIfInBounds_toArray, List.set_cons_zero, List.set_cons_succ]
        refine hd_take 6 (o := ⟨some 43, _, _, _, _, _⟩) (.pointer (some ⟨R, 0, none⟩)) (by kernel_rfl) (by kernel_rfl) (by kernel_rfl) rfl (by rfl) (fun W hSw => by go_simp) (fun _ _ _ h => h) HS2.out ?_
        simp only [Act.put, List.setIfInBounds_toArray, List.set_cons_zero, List.set_cons_succ]
        refine hd_take 7 (o := ⟨some 44, _, _, _, _, _⟩) (.slice (some ⟨g, 0, none⟩) L c) (by kernel_rfl) (by kernel_rfl) (by kernel_rfl) rfl (by rfl) (fun W hSw => by have s1 := hSw.1.rowc; go_simp) (fun _ _ _ h => h) HS2.out ?_
        simp only [Act.put, List.setIfInBounds_toArray, List.set_cons_zero, List.set_cons_succ]
        refine hd_take 8 (o := ⟨some 45, _, _, _, _, _⟩) (.int .i64 (k : Int)) (by kernel_rfl) (by kernel_rfl) (by kernel_rfl) rfl (by rfl) (fun W hSw => by go_simp) (fun _ _ _ h => h) HS2.out ?_
        simp only [Act.put, List.setIfInBounds_toArray, List.set_cons_zero, List.set_cons_succ]
        refine hd_take 9 (o := ⟨some 46, _, _, _, _, _⟩) (.pointer (some ⟨g, k * 25, none⟩)) (by kernel_rfl) (by kernel_rfl) (by kernel_rfl) rfl (by rfl) (fun W hSw => by go_simp) (fun _ _ _ h => h) HS2.out ?_
        simp only [Act.put, List.setIfInBounds_toArray, List.set_cons_zero, List.set_cons_succ]
        refine hd_take 10 (o := ⟨some 47, _, _, _, _, _⟩) (.pointer (some ⟨g, k * 25, none⟩)) (by kernel_rfl) (by kernel_rfl) (by kernel_rfl) rfl (by rfl) (fun W hSw => by go_simp) (fun _ _ _ h => h) HS2.out ?_
        simp only [Act.put, List.setIfInBounds_toArray, List.set_cons_zero, List.set_cons_succ]
        refine hd_take 11 (o := ⟨some 48, _, _, _, _, _⟩) (.int .i64 (ya : Int)) (by kernel_rfl) (by kernel_rfl) (by kernel_rfl) rfl (by rfl) (fun W hSw => by have s1 := rt_cell0 hSw.1 HY.out; go_simp) (fun _ _ _ h => h) HS2.out ?_
        simp only [Act.put, List.setIfInBounds_toArray, List.set_cons_zero, List.set_cons_succ]
        refine hd_take 12 (o := ⟨some 49, _, _, _, _, _⟩) (.bool false) (by kernel_rfl) (by kernel_rfl) (by kernel_rfl) rfl (by rfl) (fun W hSw => by go_simp) (fun _ _ _ h => h) HS2.out ?_
        simp only [Act.put, List.setIfInBounds_toArray, List.set_cons_zero, List.set_cons_succ]
        refine wpAnyH_done (by kernel_rfl) ?_ _
        clear t1' HS2
        go_wp2
        go_roundw
        case rel => first | exact ⟨j + 1, by omega, by go_num, by rw [HD2.out], HE3⟩ | ((repeat apply Exists.intro); refine ⟨?_, rfl⟩; exact ⟨j + 1, by omega, by go_num, by rw [HD2.out], HE3⟩)
        case measure => simp [intOf]; omega
    · obtain rfl : nw = j := by omega
      have hdj : decide ((nw : Int) < (nw : Int)) = false := by simp
      have hwt : ws.take nw = ws := List.take_of_length_le (by rw [HNW.out]; exact Nat.le_refl _)
      rw [hwt]
      clear hwt
      by_cases t1 : ya ∈ ws
      · have t1' : decide (ya ∈ ws) = true := by simp [t1]
        have HF := hide (gk_no HY.out t1)
        have HEnd : Hid (m = ((K.take (k + 1)).filter (gk ws)).length ∧ wr.ownsRow w1.heap.size 85 25 (.slice a2 m c2) m (encW ((K.take (k + 1)).filter (gk ws))) ∧ (Value.slice a2 m c2).ownBlock ≠ some gw) := hide (by rw [HF.out]; exact ⟨HKm.out.1, KJ.out.1, HKm.out.2⟩)
        have HI2 : Hid (Below w1.heap.size w1 wr ∧ RtAt wr R (.slice (some ⟨g, 0, none⟩) L c) K last ∧ wr.ownsRow 0 3 1 (.slice (some ⟨gw, 0, none⟩) nw cw) nw (numN ws)) := hide KJ.out.2
        rw [t1']
        clear t1 t1' KJ HF
        go_wp2
        go_roundw
        case rel => first | exact ⟨k + 1, by omega, by go_num, m, a2, c2, rfl, by omega, HEnd, HI2⟩ | ((repeat apply Exists.intro); refine ⟨?_, rfl⟩; exact ⟨k + 1, by omega, by go_num, m, a2, c2, rfl, by omega, HEnd, HI2⟩)
        case measure => simp [intOf]; omega
      · have t1' : decide (ya ∈ ws) = false := by simp [t1]
        have HF := hide (gk_yes HY.out t1)
        rw [t1']
        have c16 := KJ.out.2.2.1.rowc
        have HO := hide KJ.out.1
        have hsz := KJ.out.2.1.size
        have HLd : Hid (∀ (j : Nat) (v : Value), ([.int .i64 (ya : Int), .int .i64 yr.se, .int .i64 yr.pa, .int .i64 yr.st, .int .i64 yr.co, .int .i64 yr.bi, .bool yr.fz, .int .u32 (yr.rg 0 : Nat), .int .u32 (yr.rg 1 : Nat), .int .u32 (yr.rg 2 : Nat), .int .u32 (yr.rg 3 : Nat), .int .u32 (yr.rg 4 : Nat), .int .u32 (yr.rg 5 : Nat), .int .u32 (yr.rg 6 : Nat), .int .u32 (yr.rg 7 : Nat), .int .u32 (yr.pc : Nat), .int .i64 yr.qu.f, .int .i64 yr.qu.e, .int .i64 yr.qu.x, .int .i64 0, .int .i64 0, .int .i64 0, .int .i64 yr.pd.f, .int .i64 yr.pd.e, .int .i64 yr.pd.x] : List Value)[j]? = some v → wr.cell? ((⟨g, k * 25, none⟩ : Addr).add j) = some v) := hide (fun j v hj => by
          rw [add_off]
          exact rt_cell KJ.out.2.2.1 HY.out hj)
        clear t1 t1'
        go_upto_region 10 with (first | (refine loadT Tryz.underlying85 rfl [.int .i64 (ya : Int), .int .i64 yr.se, .int .i64 yr.pa, .int .i64 yr.st, .int .i64 yr.co, .int .i64 yr.bi, .bool yr.fz, .int .u32 (yr.rg 0 : Nat), .int .u32 (yr.rg 1 : Nat), .int .u32 (yr.rg 2 : Nat), .int .u32 (yr.rg 3 : Nat), .int .u32 (yr.rg 4 : Nat), .int .u32 (yr.rg 5 : Nat), .int .u32 (yr.rg 6 : Nat), .int .u32 (yr.rg 7 : Nat), .int .u32 (yr.pc : Nat), .int .i64 yr.qu.f, .int .i64 yr.qu.e, .int .i64 yr.qu.x, .int .i64 0, .int .i64 0, .int .i64 0, .int .i64 yr.pd.f, .int .i64 yr.pd.e, .int .i64 yr.pd.x] infoRow2 ?lw _ rfl ⟨g, k * 25, none⟩ ?lx ?lc ?_) | (at_builtin; refine wpList_append_own_at _ rfl _ _ 81 rfl w1.heap.size 85 iR (.agg (encW1 (0, Er.nil)).toArray) 25 160 Tryz.underlying81 hiR hzR hsR hbR rfl (by decide) (.slice a2 m c2) m (encW ((K.take k).filter (gk ws))) rfl (HO.out.alloc _) ⟨wr.heap.size, 0, none⟩ 1 1 (encW1 (ya, yr)) rfl rfl (row_cells (heap_alloc_new _ _)) (encW1_one _) (by unfold maxLen; omega) (by omega) (by simp; omega) ?_; intro v3 w3 ho3 hg3 _ hl3))
        try (case lw => rfl)
        try (case lx => rfl)
        try (case lc => exact HLd.out)
        obtain ⟨a3, c3, rfl⟩ := own_shape ho3
        have hs3 := hg3.size
        simp only [World.alloc, Array.size_push] at hs3
        have HI3 : Hid (Below w1.heap.size w1 w3 ∧ RtAt w3 R (.slice (some ⟨g, 0, none⟩) L c) K last ∧ w3.ownsRow 0 3 1 (.slice (some ⟨gw, 0, none⟩) nw cw) nw (numN ws)) := hide (by
          obtain ⟨q1, q2, q3, q4⟩ := KJ.out
          have hb3 : Below w1.heap.size w1 w3 := (q2.alloc hsz _).grown hg3 (by simp; omega) (fun b hb' => (World.ownsRow.lt q1 b hb').1)
          refine ⟨hb3, HRt.out w3 hb3, ownsRow_keep q4 (fun b hb' => ?_)⟩
          have hb9 : gw = b := by simpa [Value.ownBlock] using hb'
          subst hb9
          have hlt9 := ownsRow_lt q4 hb'
          rw [hg3.block gw (by simp; omega) (fun e9 => HKm.out.2 e9.symm), Below.heap_alloc _ _ _ hlt9])
        have HEnd : Hid (m + 1 = ((K.take (k + 1)).filter (gk ws)).length ∧ w3.ownsRow w1.heap.size 85 25 (.slice a3 (m + 1) c3) (m + 1) (encW ((K.take (k + 1)).filter (gk ws))) ∧ (Value.slice a3 (m + 1) c3).ownBlock ≠ some gw) := hide (by
          obtain ⟨q1, q2, q3, q4⟩ := KJ.out
          have hlt9 := ownsRow_lt q4 (show Value.ownBlock _ = some gw from rfl)
          refine ⟨by rw [HF.out, List.length_append, ← HKm.out.1]; rfl, ?_, fun e9 => ?_⟩
          · rw [HF.out, encW_app]
            have : encW [(ya, yr)] = encW1 (ya, yr) := by simp [encW]
            rw [this]
            exact ho3
          · rcases hl3 with h9 | h9
            · exact HKm.out.2 (by rw [← h9]; exact e9)
            · rw [h9] at e9
              simp at e9
              omega)
        clear ho3 hg3 hl3 KJ HO HF c16 hs3 HLd
        go_wp2
        go_roundw
        case rel => first | exact ⟨k + 1, by omega, by go_num, m + 1, a3, c3, rfl, by omega, HEnd, HI3⟩ | ((repeat apply Exists.intro); refine ⟨?_, rfl⟩; exact ⟨k + 1, by omega, by go_num, m + 1, a3, c3, rfl, by omega, HEnd, HI3⟩)
        case measure => simp [intOf]; omega
  · obtain rfl : k = L := by omega
    have hd : decide ((k : Int) < (k : Int)) = false := by simp
    have f16 := KI.out.2.1.frz 0
    have HEnd : Hid (∃ F', RtA R (drops (dsP rs r) ws) last (wr.setCell ⟨R, 0, none⟩ (.slice a2 m c2)) F' ∧ Ext F w1 F' (wr.setCell ⟨R, 0, none⟩ (.slice a2 m c2)) ∧ (wr.setCell ⟨R, 0, none⟩ (.slice a2 m c2)).ownsRow w1.heap.size 3 1 (.slice (some ⟨gw, 0, none⟩) nw cw) nw (numN ws)) := hide (by
      obtain ⟨q1, q2, q3⟩ := KA.out
      obtain ⟨q4, q5, q6⟩ := KI.out
      obtain ⟨K2, g1, g2, g3⟩ := HAg.out
      rw [List.take_of_length_le (by rw [HL.out]; exact Nat.le_refl _)] at q1 q2
      have hnv : ∀ b, (Value.slice a2 m c2).ownBlock = some b → w1.heap.size ≤ b := fun b hb' => (World.ownsRow.lt q2 b hb').1
      have hRl := HRl.out
      refine ⟨fun b => b = R ∨ (Value.slice a2 m c2).ownBlock = some b, ⟨.slice a2 m c2, K2, ⟨?_, ?_, fun e9 => by have := hnv R e9; omega⟩, g1, fun b => Iff.rfl⟩, ⟨(Mod.of_below q4).setCell (.inl ((HHe.out R).2 (.inl rfl))) _, ?_⟩, ?_⟩
      · rw [heap_setCell_same _ R 0 _ _ (.slice a2 m c2) q5.top]; rfl
      · rw [g2, g3, ← q1]
        exact ownsRow_keep (own_low q2 (Nat.zero_le _)) (fun b hb' => heap_setCell_other _ _ _ _ (fun e9 => by have := hnv b hb'; have e8 : b = R := e9; omega))
      · rintro b (rfl | e9)
        · exact .inl ((HHe.out b).2 (.inl rfl))
        · exact .inr (hnv b e9)
      · have h9 : wr.ownsRow w1.heap.size 3 1 (.slice (some ⟨gw, 0, none⟩) nw cw) nw (numN ws) := own_up q6 HGw.out
        exact ownsRow_keep h9 (fun b hb' => heap_setCell_other _ _ _ _ (fun e9 => by
          have hb9 : gw = b := by simpa [Value.ownBlock] using hb'
          have := HGw.out
          have e8 : b = R := e9
          omega)))
    clear KA KI
    go_wp2
    go_ret2
    obtain ⟨F', p1, p2, p3⟩ := HEnd.out
    exact ⟨_, F', rfl, p1, p2, by rw [HNW.out]; exact p3⟩
end
end Go.Proofs.YtbocpmcodlceoaaGreat
