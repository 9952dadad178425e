import Derived.Test.YtdeilmllgbajbaaBA
import Derived.Deep.RegionHeld
namespace Go.Proofs.Ytdeilmllgbajbaa
open Go.RowKit

section
variable {P : Program} {ops : Array Oper} {Q : Exit → Act → World → Prop} {S : World → Prop} {fuel : Nat} {listed : Array Bool} {a : Act} {w : World}
/-- the one operation that may come up -/
theorem hd_call (i : Nat) {o : Oper} (hr : Region.ready .any ops listed = [i]) (ho : ops[i]? = some o) (hw : Region.wanted o (yielded ops a.tmps) = true)
    (h : ∀ K : Act → World → Prop, (∀ a w, S w → wpAnyH P .any ops Q S fuel (listed.setIfInBounds i true) a w → K a w) → Oper.wp P o a w K Q) : wpAnyH P .any ops Q S (fuel + 1) listed a w := by
  refine wpAnyH_ready hr (by simp) (AllReadyH.cons ho (fun K hK => ?_) AllReadyH.nil)
  rw [if_pos hw]
  exact h K (fun a w hS hh => hK.out a w hS (fun _ => hh))
/-- what yields in whatever world that meets S -/
theorem hd_take (i : Nat) {o : Oper} (v : Value) (hs : Region.noSelect ops = true) (hf : Region.free .any ops listed i = true) (hr : (Region.ready .any ops listed).contains i = true) (ho : ops[i]? = some o) (hw : Region.wanted o (yielded ops a.tmps) = true)
    (hy : ∀ w, S w → (execOp a.eval o).run P w = .ok (.value v) w)
    (hQ : ∀ c a w, Q (.panic c) (a.put o.dst v) w → Q (.panic c) a w) (h0 : S w) (h : wpAnyH P .any ops Q S fuel (listed.setIfInBounds i true) (a.put o.dst v) w) : wpAnyH P .any ops Q S (fuel + 1) listed a w :=
  wpAnyH_take ho hs hf hr hQ (Or.inl ⟨hw, hy⟩) h0 h
/-- the two operations that may come up -/
theorem hd_two (i j : Nat) {o1 o2 : Oper} (hr : Region.ready .any ops listed = [i, j]) (ho1 : ops[i]? = some o1) (ho2 : ops[j]? = some o2) (hw1 : Region.wanted o1 (yielded ops a.tmps) = true) (hw2 : Region.wanted o2 (yielded ops a.tmps) = true)
    (h1 : ∀ K : Act → World → Prop, (∀ a w, S w → wpAnyH P .any ops Q S fuel (listed.setIfInBounds i true) a w → K a w) → Oper.wp P o1 a w K Q)
    (h2 : ∀ K : Act → World → Prop, (∀ a w, S w → wpAnyH P .any ops Q S fuel (listed.setIfInBounds j true) a w → K a w) → Oper.wp P o2 a w K Q) : wpAnyH P .any ops Q S (fuel + 1) listed a w := by
  refine wpAnyH_ready hr (by simp) (AllReadyH.cons ho1 (fun K hK => ?_) (AllReadyH.cons ho2 (fun K hK => ?_) AllReadyH.nil))
  · rw [if_pos hw1]; exact h1 K (fun a w hS hh => hK.out a w hS (fun _ => hh))
  · rw [if_pos hw2]; exact h2 K (fun a w hS hh => hK.out a w hS (fun _ => hh))
end
/-- append to a row of the call's own, as one operation -/
theorem oper_append {P : Program} {o : Oper} {a : Act} {w : World} {K : Act → World → Prop} {Q : Exit → Act → World → Prop}
    (s x : Operand) (t : TypeId) (hop : o.op = Op.call { callee := Callee.builtin Builtin.append, args := #[s, x], argTypes := #[t, t] })
    (base : Nat) (e : TypeId) (i : TypeInfo) (z : Value) (size bytes : Nat) (h1 : P.underlying t = some (.slice e)) (h2 : P.info? e = some i) (h3 : i.zero = some z) (h4 : i.size = size) (h5 : i.bytes = bytes) (h6 : z.cells.size = size) (h7 : 0 < size)
    (v : Value) (n : Nat) (xs : List Value) (hs : a.eval s = v) (hown : w.ownsRow base e size v n xs)
    (ad : Addr) (m c : Nat) (news : List Value) (hx : a.eval x = .slice (some ad) m c) (hn : news.length = m * size) (hc : ∀ j u, news[j]? = some u → w.cell? (ad.add j) = some u) (h1c : ∀ u ∈ news, u.oneCell' = true)
    (b1 : n + m ≤ maxLen) (b2 : (n + m) * bytes ≤ 140737488355328) (hbase : base ≤ w.heap.size)
    (hK : ∀ v' w', w'.ownsRow base e size v' (n + m) (xs ++ news) → w.grownBy w' v.ownBlock → (v'.ownBlock = v.ownBlock ∨ v'.ownBlock = some w.heap.size) → K (a.put o.dst v') w') : Oper.wp P o a w K Q := by
  obtain ⟨v', w', hr, r2, r3, _, r5⟩ := run_append_own_at (P := P) w base t o.type e i z size bytes h1 h2 h3 h4 h5 h6 h7 v n xs hown ad m c news hn hc h1c b1 b2 hbase
  unfold Oper.wp execOp
  simp only [hop, resolve, invoke, builtin, Sem.run_bind, Sem.run_pure, Result.andThen_ok, List.map_toArray, List.map_cons, List.map_nil, hs, hx, hr]
  exact hK v' w' r2 r3 r5
theorem sw_take {L : List (Int × Int)} {i : Nat} {p : Int × Int} (h : L[i]? = some p) : sw (L.take (i + 1)) = sw (L.take i) ++ [(p.2, p.1)] := by
  obtain ⟨x, y⟩ := p; unfold sw; rw [List.take_add_one, h]; simp
/-- a new tie under way: at U, with these pairs -/
def Tn (w W : World) (U : Nat) (v : Value) (L : List (Int × Int)) : Prop := RbAt W (fun b => b = U ∨ v.ownBlock = some b) U v L ∧ Below w.heap.size w W ∧ w.heap.size ≤ U ∧ ∀ b, v.ownBlock = some b → w.heap.size ≤ b
set_option maxRecDepth 100000 in
set_option maxHeartbeats 3200000 in
theorem turnRb_any (w : World) (F : Nat → Prop) (J : Nat) (L : List (Int × Int)) (h : Rb w F J L) (hL : L.length ≤ 4398046511104) :
    Calls Try.prog 34 #[.pointer (some ⟨J, 0, none⟩)] w fun x w' => ∃ U F', x = .returned (.pointer (some ⟨U, 0, none⟩)) ∧ Rb w' F' U (sw L) ∧ (∀ b, F' b → w.heap.size ≤ b) ∧ Below w.heap.size w w' := by
  obtain ⟨i3, hi, hz, hs3, hb3⟩ := infoP
  obtain ⟨v, h⟩ := h
  obtain ⟨ao, cap, rfl⟩ := own_shape h.row
  have HKp : Hid (∀ W, Below w.heap.size w W → RbAt W F J (.slice ao L.length cap) L) := hide (fun W hW => h.keep hW.size (fun b hf => hW.block b (h.lt b hf)))
  have HLt := hide h.lt
  have HFJ := hide h.fJ
  have HFv := hide h.fv
  have H0 : Hid (Tn w (w.alloc (.cells #[.slice none 0 0] 45)) w.heap.size (.slice none 0 0) (sw (L.take 0))) := hide ⟨⟨heap_alloc_new w _, ⟨rfl, .inl ⟨rfl, rfl⟩⟩, by simp [Value.ownBlock], .inl rfl, fun b e => .inr e, fun b hb => by simp [Value.ownBlock] at hb; simp; omega⟩, (Below.refl _ _).alloc (Nat.le_refl _) _, Nat.le_refl _, by simp [Value.ownBlock]⟩
  obtain ⟨n, hnn⟩ : ∃ n, L.length = n := ⟨_, rfl⟩
  have HNN := hide hnn
  rw [hnn] at hL HKp
  obtain ⟨U, hU⟩ : ∃ U, w.heap.size = U := ⟨_, rfl⟩
  have HU := hide hU
  clear h hnn
  go_enter Try.func34, Try.ntmps34
  go_wp2
  try rw [hU]
  clear hU
  go_loopw [4] (fun x wr => ∃ (i : Nat) (au : Option Addr) (cu : Nat), i ≤ n ∧ x = .int .i64 i ∧ Hid (Tn w wr U (.slice au i cu) (sw (L.take i)))) (fun x _ => n - (intOf x).toNat)
  case atStart => exact ⟨0, none, 0, by omega, rfl, by rw [← HU.out]; exact H0⟩
  case round =>
  clear H0
  obtain ⟨i, au, cu, hin, rfl, HTn⟩ := hrel
  have hA := HKp.out _ HTn.out.2.1
  have c0 := hA.cell.1
  by_cases hlt : i < n
  · obtain ⟨p, hp⟩ : ∃ p, L[i]? = some p := ⟨_, List.getElem?_eq_getElem (by rw [HNN.out]; exact hlt)⟩
    obtain ⟨g, cp, hv, h1, h2⟩ := hA.at hp
    rw [HNN.out] at hv
    cases hv
    have hJU : J ≠ U := fun e => by have := HLt.out J HFJ.out; have := HTn.out.2.2.1; omega
    have hgU : g ≠ U := fun e => by have := HLt.out g (HFv.out g rfl); have := HTn.out.2.2.1; omega
    have HNJ := hide hJU
    have HNg := hide hgU
    have HSt := hide (sw_take hp)
    have hil : (i : Int) < (n : Int) := by omega
    have HlJ := hide (HLt.out J HFJ.out)
    have Hlg := hide (HLt.out g (HFv.out g rfl))
    clear hp hJU hgU
    go_upto_region 5 with fail
    obtain ⟨wD, hwD⟩ : ∃ wD, wD = wr.drew := ⟨_, rfl⟩
    have HTD : Hid (Tn w wD U (.slice au i cu) (sw (L.take i))) := by
      rw [hwD]
      exact hide ⟨HTn.out.1.keep (Nat.le_refl _) (fun _ _ => rfl), HTn.out.2.1.drew, HTn.out.2.2⟩
    have HS0 : Hid (wD.cell? ⟨J, 0, none⟩ = some (.slice (some ⟨g, 0, none⟩) n cap) ∧ wD.cell? ⟨g, i * 2, none⟩ = some (.int .i64 p.1) ∧ wD.cell? ⟨g, i * 2 + 1, none⟩ = some (.int .i64 p.2)) := by rw [hwD]; exact hide ⟨c0, h1, h2⟩
    have HU0 := hide HTD.out.1.cell.1
    have HlU := hide (HTD.out.1.lt U HTD.out.1.fJ)
    have HSz := hide HTD.out.2.1.size
    have HS1 : Hid ((wD.alloc (.cells #[.int .i64 p.2, .int .i64 p.1] 71)).cell? ⟨J, 0, none⟩ = some (.slice (some ⟨g, 0, none⟩) n cap) ∧ (wD.alloc (.cells #[.int .i64 p.2, .int .i64 p.1] 71)).cell? ⟨g, i * 2, none⟩ = some (.int .i64 p.1) ∧ (wD.alloc (.cells #[.int .i64 p.2, .int .i64 p.1] 71)).cell? ⟨g, i * 2 + 1, none⟩ = some (.int .i64 p.2)) := hide (by
      have e1 := Below.heap_alloc wD (.cells #[.int .i64 p.2, .int .i64 p.1] 71) J (by have := HlJ.out; have := HSz.out; omega)
      have e2 := Below.heap_alloc wD (.cells #[.int .i64 p.2, .int .i64 p.1] 71) g (by have := Hlg.out; have := HSz.out; omega)
      rw [World.cell?_of_block (a := ⟨J, 0, none⟩) e1, World.cell?_of_block (a := ⟨g, i * 2, none⟩) e2, World.cell?_of_block (a := ⟨g, i * 2 + 1, none⟩) e2]
      exact HS0.out)
    have HU1 : Hid ((wD.alloc (.cells #[.int .i64 p.2, .int .i64 p.1] 71)).cell? ⟨U, 0, none⟩ = some (.slice au i cu)) := hide (by
      rw [World.cell?_of_block (a := ⟨U, 0, none⟩) (Below.heap_alloc wD (.cells #[.int .i64 p.2, .int .i64 p.1] 71) U HlU.out)]; exact HU0.out)
    have HRo : Hid ((wD.alloc (.cells #[.int .i64 p.2, .int .i64 p.1] 71)).ownsRow 0 71 2 (.slice au i cu) i (encP (sw (L.take i)))) := hide (by
      have := HTD.out.1.row.alloc (.cells #[.int .i64 p.2, .int .i64 p.1] 71)
      rwa [show (sw (L.take i)).length = i by have := HNN.out; simp [sw]; omega] at this)
    have HSg : Hid (∀ w8, (wD.alloc (.cells #[.int .i64 p.2, .int .i64 p.1] 71)).grownBy w8 (Value.slice au i cu).ownBlock → w8.cell? ⟨J, 0, none⟩ = some (.slice (some ⟨g, 0, none⟩) n cap) ∧ w8.cell? ⟨g, i * 2, none⟩ = some (.int .i64 p.1) ∧ w8.cell? ⟨g, i * 2 + 1, none⟩ = some (.int .i64 p.2)) := hide (fun w8 hg8 => by
      have far : ∀ b, b < w.heap.size → w8.heap[b]? = (wD.alloc (.cells #[.int .i64 p.2, .int .i64 p.1] 71)).heap[b]? := fun b hb => hg8.block b (by have := HSz.out; simp; omega) (fun e => by have := HTD.out.2.2.2 b e.symm; omega)
      rw [World.cell?_of_block (a := ⟨J, 0, none⟩) (far J HlJ.out), World.cell?_of_block (a := ⟨g, i * 2, none⟩) (far g Hlg.out), World.cell?_of_block (a := ⟨g, i * 2 + 1, none⟩) (far g Hlg.out)]
      exact HS1.out)
    have HUg : Hid (∀ w8, (wD.alloc (.cells #[.int .i64 p.2, .int .i64 p.1] 71)).grownBy w8 (Value.slice au i cu).ownBlock → w8.cell? ⟨U, 0, none⟩ = some (.slice au i cu) ∧ w8.frozen? ⟨U, 0, none⟩ = false) := hide (fun w8 hg8 => by
      have tJ := (hg8.block U (by have := HlU.out; simp; omega) (fun e => HTD.out.1.nJ e.symm)).trans ((Below.heap_alloc _ _ _ HlU.out).trans HTD.out.1.top)
      exact ⟨cell_of_row _ _ 0 _ _ _ tJ, frozen_of_row _ U 0 _ _ tJ⟩)
    have HAp : Hid (∀ w8 v2, (w8.ownsRow 0 71 2 v2 (i + 1) (encP (sw (L.take i)) ++ [.int .i64 p.2, .int .i64 p.1]) ∧ (wD.alloc (.cells #[.int .i64 p.2, .int .i64 p.1] 71)).grownBy w8 (Value.slice au i cu).ownBlock ∧ (v2.ownBlock = (Value.slice au i cu).ownBlock ∨ v2.ownBlock = some (wD.alloc (.cells #[.int .i64 p.2, .int .i64 p.1] 71)).heap.size)) → Tn w (w8.setCell ⟨U, 0, none⟩ v2) U v2 (sw (L.take (i + 1)))) := hide (fun w8 v2 ⟨ho8, hg8, hl8⟩ => by
      obtain ⟨q1, q2⟩ := HTD.out.1.app (L' := sw (L.take (i + 1))) ((Below.refl wD.heap.size wD).alloc (Nat.le_refl _) (.cells #[.int .i64 p.2, .int .i64 p.1] 71)) hg8 hl8 (by rw [HSt.out, encP_snoc]; rw [show (sw (L.take i) ++ [(p.2, p.1)]).length = i + 1 by have := HNN.out; simp [sw]; omega]; exact ho8)
      have lov : ∀ b, v2.ownBlock = some b → w.heap.size ≤ b := fun b e => by
        rcases hl8 with h1 | h1
        · exact HTD.out.2.2.2 b (by rw [← h1, e])
        · rw [e] at h1; simp at h1; have := HSz.out; omega
      refine ⟨⟨q1.top, q1.row, q1.nJ, .inl rfl, fun b e => .inr e, fun b hb => ?_⟩, ?_, HTD.out.2.2.1, lov⟩
      · rcases hb with rfl | e
        · exact q1.lt b (.inl (.inl rfl))
        · exact q1.lt b (.inr e)
      · exact HTD.out.2.1.trans (q2.mod.below (fun b hb => by
          rcases hb with rfl | e
          · exact HTD.out.2.2.1
          · exact HTD.out.2.2.2 b e) HSz.out))
    refine wp_region_held_drew (S := fun W => W.cell? ⟨J, 0, none⟩ = some (.slice (some ⟨g, 0, none⟩) n cap) ∧ W.cell? ⟨g, i * 2, none⟩ = some (.int .i64 p.1) ∧ W.cell? ⟨g, i * 2 + 1, none⟩ = some (.int .i64 p.2)) (by kernel_rfl) (by rw [← hwD]; exact HS0.out) (fun _ => ?_)
    rw [← hwD]
    clear hwD hA c0 h1 h2 HTn HTD
    refine hd_take 0 (o := ⟨some 16, _, _, _, _, _⟩) (.pointer (some ⟨U, 0, none⟩)) (by kernel_rfl) (by kernel_rfl) (by kernel_rfl) rfl (by rfl) (fun W hSw => by go_simp) (fun _ _ _ h => h) HS0.out ?_
    try simp only [Act.put, List.setIfInBounds_toArray, List.set_cons_zero, List.set_cons_succ]
    refine hd_take 1 (o := ⟨some 17, _, _, _, _, _⟩) (.pointer (some ⟨U, 0, none⟩)) (by kernel_rfl) (by kernel_rfl) (by kernel_rfl) rfl (by rfl) (fun W hSw => by go_simp) (fun _ _ _ h => h) HS0.out ?_
    try simp only [Act.put, List.setIfInBounds_toArray, List.set_cons_zero, List.set_cons_succ]
    refine hd_take 2 (o := ⟨some 18, _, _, _, _, _⟩) (.pointer (some ⟨U, 0, none⟩)) (by kernel_rfl) (by kernel_rfl) (by kernel_rfl) rfl (by rfl) (fun W hSw => by go_simp) (fun _ _ _ h => h) HS0.out ?_
    try simp only [Act.put, List.setIfInBounds_toArray, List.set_cons_zero, List.set_cons_succ]
    refine hd_take 3 (o := ⟨some 19, _, _, _, _, _⟩) (.pointer (some ⟨U, 0, none⟩)) (by kernel_rfl) (by kernel_rfl) (by kernel_rfl) rfl (by rfl) (fun W hSw => by go_simp) (fun _ _ _ h => h) HS0.out ?_
    try simp only [Act.put, List.setIfInBounds_toArray, List.set_cons_zero, List.set_cons_succ]
    refine hd_take 5 (o := ⟨some 21, _, _, _, _, _⟩) (.pointer (some ⟨J, 0, none⟩)) (by kernel_rfl) (by kernel_rfl) (by kernel_rfl) rfl (by rfl) (fun W hSw => by go_simp) (fun _ _ _ h => h) HS0.out ?_
    try simp only [Act.put, List.setIfInBounds_toArray, List.set_cons_zero, List.set_cons_succ]
    refine hd_take 6 (o := ⟨some 22, _, _, _, _, _⟩) (.pointer (some ⟨J, 0, none⟩)) (by kernel_rfl) (by kernel_rfl) (by kernel_rfl) rfl (by rfl) (fun W hSw => by go_simp) (fun _ _ _ h => h) HS0.out ?_
    try simp only [Act.put, List.setIfInBounds_toArray, List.set_cons_zero, List.set_cons_succ]
    refine hd_take 7 (o := ⟨some 23, _, _, _, _, _⟩) (.pointer (some ⟨J, 0, none⟩)) (by kernel_rfl) (by kernel_rfl) (by kernel_rfl) rfl (by rfl) (fun W hSw => by go_simp) (fun _ _ _ h => h) HS0.out ?_
    try simp only [Act.put, List.setIfInBounds_toArray, List.set_cons_zero, List.set_cons_succ]
    refine hd_take 8 (o := ⟨some 24, _, _, _, _, _⟩) (.slice (some ⟨g, 0, none⟩) n cap) (by kernel_rfl) (by kernel_rfl) (by kernel_rfl) rfl (by rfl) (fun W hSw => by obtain ⟨s1, s2, s3⟩ := hSw; go_simp) (fun _ _ _ h => h) HS0.out ?_
    try simp only [Act.put, List.setIfInBounds_toArray, List.set_cons_zero, List.set_cons_succ]
    refine hd_take 9 (o := ⟨some 25, _, _, _, _, _⟩) (.int .i64 (i : Int)) (by kernel_rfl) (by kernel_rfl) (by kernel_rfl) rfl (by rfl) (fun W hSw => by go_simp) (fun _ _ _ h => h) HS0.out ?_
    try simp only [Act.put, List.setIfInBounds_toArray, List.set_cons_zero, List.set_cons_succ]
    refine hd_take 10 (o := ⟨some 26, _, _, _, _, _⟩) (.pointer (some ⟨g, i * 2, none⟩)) (by kernel_rfl) (by kernel_rfl) (by kernel_rfl) rfl (by rfl) (fun W hSw => by go_simp) (fun _ _ _ h => h) HS0.out ?_
    try simp only [Act.put, List.setIfInBounds_toArray, List.set_cons_zero, List.set_cons_succ]
    refine hd_take 11 (o := ⟨some 27, _, _, _, _, _⟩) (.pointer (some ⟨g, i * 2 + 1, none⟩)) (by kernel_rfl) (by kernel_rfl) (by kernel_rfl) rfl (by rfl) (fun W hSw => by go_simp) (fun _ _ _ h => h) HS0.out ?_
    try simp only [Act.put, List.setIfInBounds_toArray, List.set_cons_zero, List.set_cons_succ]
    refine hd_take 12 (o := ⟨some 28, _, _, _, _, _⟩) (.int .i64 p.2) (by kernel_rfl) (by kernel_rfl) (by kernel_rfl) rfl (by rfl) (fun W hSw => by obtain ⟨s1, s2, s3⟩ := hSw; go_simp) (fun _ _ _ h => h) HS0.out ?_
    try simp only [Act.put, List.setIfInBounds_toArray, List.set_cons_zero, List.set_cons_succ]
    refine hd_take 13 (o := ⟨some 29, _, _, _, _, _⟩) (.pointer (some ⟨J, 0, none⟩)) (by kernel_rfl) (by kernel_rfl) (by kernel_rfl) rfl (by rfl) (fun W hSw => by go_simp) (fun _ _ _ h => h) HS0.out ?_
    try simp only [Act.put, List.setIfInBounds_toArray, List.set_cons_zero, List.set_cons_succ]
    refine hd_take 14 (o := ⟨some 30, _, _, _, _, _⟩) (.pointer (some ⟨J, 0, none⟩)) (by kernel_rfl) (by kernel_rfl) (by kernel_rfl) rfl (by rfl) (fun W hSw => by go_simp) (fun _ _ _ h => h) HS0.out ?_
    try simp only [Act.put, List.setIfInBounds_toArray, List.set_cons_zero, List.set_cons_succ]
    refine hd_take 15 (o := ⟨some 31, _, _, _, _, _⟩) (.pointer (some ⟨J, 0, none⟩)) (by kernel_rfl) (by kernel_rfl) (by kernel_rfl) rfl (by rfl) (fun W hSw => by go_simp) (fun _ _ _ h => h) HS0.out ?_
    try simp only [Act.put, List.setIfInBounds_toArray, List.set_cons_zero, List.set_cons_succ]
    refine hd_take 16 (o := ⟨some 32, _, _, _, _, _⟩) (.slice (some ⟨g, 0, none⟩) n cap) (by kernel_rfl) (by kernel_rfl) (by kernel_rfl) rfl (by rfl) (fun W hSw => by obtain ⟨s1, s2, s3⟩ := hSw; go_simp) (fun _ _ _ h => h) HS0.out ?_
    try simp only [Act.put, List.setIfInBounds_toArray, List.set_cons_zero, List.set_cons_succ]
    refine hd_take 17 (o := ⟨some 33, _, _, _, _, _⟩) (.int .i64 (i : Int)) (by kernel_rfl) (by kernel_rfl) (by kernel_rfl) rfl (by rfl) (fun W hSw => by go_simp) (fun _ _ _ h => h) HS0.out ?_
    try simp only [Act.put, List.setIfInBounds_toArray, List.set_cons_zero, List.set_cons_succ]
    refine hd_take 18 (o := ⟨some 34, _, _, _, _, _⟩) (.pointer (some ⟨g, i * 2, none⟩)) (by kernel_rfl) (by kernel_rfl) (by kernel_rfl) rfl (by rfl) (fun W hSw => by go_simp) (fun _ _ _ h => h) HS0.out ?_
    try simp only [Act.put, List.setIfInBounds_toArray, List.set_cons_zero, List.set_cons_succ]
    refine hd_take 19 (o := ⟨some 35, _, _, _, _, _⟩) (.pointer (some ⟨g, i * 2, none⟩)) (by kernel_rfl) (by kernel_rfl) (by kernel_rfl) rfl (by rfl) (fun W hSw => by go_simp) (fun _ _ _ h => h) HS0.out ?_
    try simp only [Act.put, List.setIfInBounds_toArray, List.set_cons_zero, List.set_cons_succ]
    refine hd_take 20 (o := ⟨some 36, _, _, _, _, _⟩) (.int .i64 p.1) (by kernel_rfl) (by kernel_rfl) (by kernel_rfl) rfl (by rfl) (fun W hSw => by obtain ⟨s1, s2, s3⟩ := hSw; go_simp) (fun _ _ _ h => h) HS0.out ?_
    try simp only [Act.put, List.setIfInBounds_toArray, List.set_cons_zero, List.set_cons_succ]
    refine hd_take 21 (o := ⟨some 37, _, _, _, _, _⟩) (.agg #[.int .i64 p.2, .int .i64 p.1]) (by kernel_rfl) (by kernel_rfl) (by kernel_rfl) rfl (by rfl) (fun W hSw => by go_simp) (fun _ _ _ h => h) HS0.out ?_
    try simp only [Act.put, List.setIfInBounds_toArray, List.set_cons_zero, List.set_cons_succ]
    refine hd_two 4 22 (o1 := ⟨some 20, _, _, _, _, _⟩) (o2 := ⟨some 38, _, _, _, _, _⟩) (by kernel_rfl) rfl rfl (by rfl) (by rfl) (fun K hK => ?_) (fun K hK => ?_)
    · have d4 := HU0.out
      go_simp
      refine hK _ _ HS0.out ?_
      clear hK K d4
      try simp only [Act.put, List.setIfInBounds_toArray, List.set_cons_zero, List.set_cons_succ]
      refine hd_call 22 (o := ⟨some 38, _, _, _, _, _⟩) (by kernel_rfl) rfl (by rfl) (fun K hK => ?_)
      go_simp
      refine hK _ _ HS1.out ?_
      clear hK K
      try simp only [Act.put, List.setIfInBounds_toArray, List.set_cons_zero, List.set_cons_succ]
      refine hd_call 23 (o := ⟨some 39, _, _, _, _, _⟩) (by kernel_rfl) rfl (by rfl) (fun K hK => ?_)
      refine oper_append _ _ 43 rfl 0 71 i3 (.agg #[.int .i64 0, .int .i64 0]) 2 16 Try.underlying43 hi hz hs3 hb3 rfl (by decide) (.slice au i cu) i (encP (sw (L.take i))) rfl HRo.out ⟨wD.heap.size, 0, none⟩ 1 1 [.int .i64 p.2, .int .i64 p.1] rfl rfl (cell_two_new _ _ _ _) (by simp [Value.oneCell']) (by unfold maxLen; omega) (by omega) (Nat.zero_le _) ?_
      intro v2 w8 ho8 hg8 hl8
      obtain ⟨g2, k2, rfl⟩ := ownsRow_succ' ho8
      have HO8 := hide (And.intro ho8 (And.intro hg8 hl8))
      have HS8 := hide (HSg.out w8 hg8)
      have c8 := (HUg.out w8 hg8).1
      have f8 := (HUg.out w8 hg8).2
      clear ho8 hg8 hl8
      refine hK _ _ HS8.out ?_
      clear hK K
      try simp only [Act.put, List.setIfInBounds_toArray, List.set_cons_zero, List.set_cons_succ]
      refine hd_take 24 (o := ⟨some 40, _, _, _, _, _⟩) (.pointer (some ⟨U, 0, none⟩)) (by kernel_rfl) (by kernel_rfl) (by kernel_rfl) rfl (by rfl) (fun W hSw => by go_simp) (fun _ _ _ h => h) HS8.out ?_
      try simp only [Act.put, List.setIfInBounds_toArray, List.set_cons_zero, List.set_cons_succ]
      refine hd_take 25 (o := ⟨some 41, _, _, _, _, _⟩) (.pointer (some ⟨U, 0, none⟩)) (by kernel_rfl) (by kernel_rfl) (by kernel_rfl) rfl (by rfl) (fun W hSw => by go_simp) (fun _ _ _ h => h) HS8.out ?_
      try simp only [Act.put, List.setIfInBounds_toArray, List.set_cons_zero, List.set_cons_succ]
      refine hd_call 26 (o := ⟨none, _, _, _, _, _⟩) (by kernel_rfl) rfl (by rfl) (fun K hK => ?_)
      go_simp
      have HS9 : Hid ((w8.setCell ⟨U, 0, none⟩ (.slice (some ⟨g2, 0, none⟩) (i + 1) k2)).cell? ⟨J, 0, none⟩ = some (.slice (some ⟨g, 0, none⟩) n cap) ∧ (w8.setCell ⟨U, 0, none⟩ (.slice (some ⟨g2, 0, none⟩) (i + 1) k2)).cell? ⟨g, i * 2, none⟩ = some (.int .i64 p.1) ∧ (w8.setCell ⟨U, 0, none⟩ (.slice (some ⟨g2, 0, none⟩) (i + 1) k2)).cell? ⟨g, i * 2 + 1, none⟩ = some (.int .i64 p.2)) := hide (by
        obtain ⟨s1, s2, s3⟩ := HS8.out
        refine ⟨?_, ?_, ?_⟩
        · rw [World.cell?_of_block (heap_setCell_other _ _ _ _ HNJ.out)]; exact s1
        · rw [World.cell?_of_block (heap_setCell_other _ _ _ _ HNg.out)]; exact s2
        · rw [World.cell?_of_block (heap_setCell_other _ _ _ _ HNg.out)]; exact s3)
      refine hK _ _ HS9.out ?_
      clear hK K c8 f8 HS9 HS8
      refine wpAnyH_done (by kernel_rfl) ?_ _
      have HFin := hide (HAp.out w8 _ HO8.out)
      clear HO8
      go_wp2
      go_roundw
      case rel => exact ⟨i + 1, _, k2, by omega, by go_num, HFin⟩
      case measure => simp [intOf]; omega
    · go_simp
      refine hK _ _ HS1.out ?_
      clear hK K
      try simp only [Act.put, List.setIfInBounds_toArray, List.set_cons_zero, List.set_cons_succ]
      refine hd_call 4 (o := ⟨some 20, _, _, _, _, _⟩) (by kernel_rfl) rfl (by rfl) (fun K hK => ?_)
      have d4 := HU1.out
      go_simp
      refine hK _ _ HS1.out ?_
      clear hK K d4
      try simp only [Act.put, List.setIfInBounds_toArray, List.set_cons_zero, List.set_cons_succ]
      refine hd_call 23 (o := ⟨some 39, _, _, _, _, _⟩) (by kernel_rfl) rfl (by rfl) (fun K hK => ?_)
      refine oper_append _ _ 43 rfl 0 71 i3 (.agg #[.int .i64 0, .int .i64 0]) 2 16 Try.underlying43 hi hz hs3 hb3 rfl (by decide) (.slice au i cu) i (encP (sw (L.take i))) rfl HRo.out ⟨wD.heap.size, 0, none⟩ 1 1 [.int .i64 p.2, .int .i64 p.1] rfl rfl (cell_two_new _ _ _ _) (by simp [Value.oneCell']) (by unfold maxLen; omega) (by omega) (Nat.zero_le _) ?_
      intro v2 w8 ho8 hg8 hl8
      obtain ⟨g2, k2, rfl⟩ := ownsRow_succ' ho8
      have HO8 := hide (And.intro ho8 (And.intro hg8 hl8))
      have HS8 := hide (HSg.out w8 hg8)
      have c8 := (HUg.out w8 hg8).1
      have f8 := (HUg.out w8 hg8).2
      clear ho8 hg8 hl8
      refine hK _ _ HS8.out ?_
      clear hK K
      try simp only [Act.put, List.setIfInBounds_toArray, List.set_cons_zero, List.set_cons_succ]
      refine hd_take 24 (o := ⟨some 40, _, _, _, _, _⟩) (.pointer (some ⟨U, 0, none⟩)) (by kernel_rfl) (by kernel_rfl) (by kernel_rfl) rfl (by rfl) (fun W hSw => by go_simp) (fun _ _ _ h => h) HS8.out ?_
      try simp only [Act.put, List.setIfInBounds_toArray, List.set_cons_zero, List.set_cons_succ]
      refine hd_take 25 (o := ⟨some 41, _, _, _, _, _⟩) (.pointer (some ⟨U, 0, none⟩)) (by kernel_rfl) (by kernel_rfl) (by kernel_rfl) rfl (by rfl) (fun W hSw => by go_simp) (fun _ _ _ h => h) HS8.out ?_
      try simp only [Act.put, List.setIfInBounds_toArray, List.set_cons_zero, List.set_cons_succ]
      refine hd_call 26 (o := ⟨none, _, _, _, _, _⟩) (by kernel_rfl) rfl (by rfl) (fun K hK => ?_)
      go_simp
      have HS9 : Hid ((w8.setCell ⟨U, 0, none⟩ (.slice (some ⟨g2, 0, none⟩) (i + 1) k2)).cell? ⟨J, 0, none⟩ = some (.slice (some ⟨g, 0, none⟩) n cap) ∧ (w8.setCell ⟨U, 0, none⟩ (.slice (some ⟨g2, 0, none⟩) (i + 1) k2)).cell? ⟨g, i * 2, none⟩ = some (.int .i64 p.1) ∧ (w8.setCell ⟨U, 0, none⟩ (.slice (some ⟨g2, 0, none⟩) (i + 1) k2)).cell? ⟨g, i * 2 + 1, none⟩ = some (.int .i64 p.2)) := hide (by
        obtain ⟨s1, s2, s3⟩ := HS8.out
        refine ⟨?_, ?_, ?_⟩
        · rw [World.cell?_of_block (heap_setCell_other _ _ _ _ HNJ.out)]; exact s1
        · rw [World.cell?_of_block (heap_setCell_other _ _ _ _ HNg.out)]; exact s2
        · rw [World.cell?_of_block (heap_setCell_other _ _ _ _ HNg.out)]; exact s3)
      refine hK _ _ HS9.out ?_
      clear hK K c8 f8 HS9 HS8
      refine wpAnyH_done (by kernel_rfl) ?_ _
      have HFin := hide (HAp.out w8 _ HO8.out)
      clear HO8
      go_wp2
      go_roundw
      case rel => exact ⟨i + 1, _, k2, by omega, by go_num, HFin⟩
      case measure => simp [intOf]; omega
  · have HE : Hid (Tn w wr U (.slice au i cu) (sw L)) := hide (by have := HTn.out; rwa [List.take_of_length_le (by rw [HNN.out]; omega)] at this)
    clear HTn hA
    go_wp2
    go_ret
    exact ⟨U, _, rfl, ⟨_, HE.out.1⟩, fun b hb => hb.elim (fun e => by rw [e]; exact HE.out.2.2.1) (fun e => HE.out.2.2.2 b e), HE.out.2.1⟩
end Go.Proofs.Ytdeilmllgbajbaa
