import Derived.Test.YtiafodeabdhcoaaGreatDoorKB
import Derived.OneCell
import Derived.ArgAppend
import Derived.Deep.DeepAppendRoom
import Derived.Laws.AppendOwnNone
namespace Go.Proofs.YtiafodeabdhcoaaGreatDoor
open Go.RowKit
/-- a slice of a block's beginning that reads -/
def Rdb (w : World) (v : Value) (n : Nat) (xs : List Value) : Prop := (v = .slice none 0 0 ∧ n = 0) ∨ ∃ g cap, v = .slice (some ⟨g, 0, none⟩) n cap ∧ n ≤ cap ∧ g < w.heap.size ∧ ∀ (j : Nat) (u : Value), xs[j]? = some u → w.cell? ⟨g, j, none⟩ = some u
theorem Rdb.rda {w : World} {v : Value} {n : Nat} {xs : List Value} (h : Rdb w v n xs) : Rda w v n xs := by
  rcases h with h | ⟨g, cap, h1, h2, _, h3⟩
  · exact .inl h
  · exact .inr ⟨_, cap, h1, h2, fun j u hu => by rw [add0]; exact h3 j u hu⟩
theorem Rdb.up {w w' : World} {v : Value} {n : Nat} {xs : List Value} (h : Rdb w v n xs) (hb : Below w.heap.size w w') : Rdb w' v n xs := by
  rcases h with h | ⟨g, cap, h1, h2, h4, h3⟩
  · exact .inl h
  · exact .inr ⟨g, cap, h1, h2, Nat.lt_of_lt_of_le h4 hb.size, fun j u hu => (hb.cell (p := ⟨g, j, none⟩) h4).trans (h3 j u hu)⟩
theorem Rdb.keep {w w' : World} {r : Option Nat} {v : Value} {n : Nat} {xs : List Value} (h : Rdb w v n xs) (hg : w.grownBy w' r) (hd : ∀ k, r = some k → v.ownBlock = some k → False) : Rdb w' v n xs := by
  rcases h with h | ⟨g, cap, h1, h2, h4, h3⟩
  · exact .inl h
  · refine .inr ⟨g, cap, h1, h2, Nat.lt_of_lt_of_le h4 hg.size, fun j u hu => ?_⟩
    rw [World.cell?_of_block (w := w) (a := ⟨g, j, none⟩) (hg.block g h4 (fun e => hd g e.symm (by rw [h1]; rfl)))]
    exact h3 j u hu
theorem own_rdb {w : World} {base k n : Nat} {e : TypeId} {v : Value} {xs : List Value} (h : w.ownsRow base e k v n xs) : Rdb w v n xs := by
  rcases h.2 with ⟨h1, h2⟩ | ⟨g, cap, cur, h1, h2, h3, h4, h5, h6, h7⟩
  · exact .inl ⟨h1, h2⟩
  · refine .inr ⟨g, cap, h1, h4, (Array.getElem?_eq_some_iff.1 h3).1, fun j u hu => ?_⟩
    rw [cell_of_row _ _ _ _ _ _ h3]
    rw [← h7, List.getElem?_take] at hu
    split at hu
    · rw [← Array.getElem?_toList]; exact hu
    · simp at hu
/-- a row of one's own, its block below hi -/
structure IR (w : World) (lo hi : Nat) (e : TypeId) (sz : Nat) (v : Value) (n : Nat) (xs : List Value) : Prop where
  own : w.ownsRow lo e sz v n xs
  hi : ∀ k, v.ownBlock = some k → k < hi
def Dj (v v' : Value) : Prop := ∀ k, v.ownBlock = some k → v'.ownBlock = some k → False
def Ltb (v : Value) (N : Nat) : Prop := ∀ k, v.ownBlock = some k → k < N
def Frb (x v : Value) (N : Nat) : Prop := ∀ k, x.ownBlock = some k → v.ownBlock = some k ∨ N ≤ k
theorem Dj.symm {v v' : Value} (h : Dj v v') : Dj v' v := fun k a b => h k b a
theorem Dj.fr {v v' x : Value} {N : Nat} (h : Dj v v') (hl : Ltb v N) (hf : Frb x v' N) : Dj v x := fun k a b => by
  rcases hf k b with h1 | h1
  · exact h k a h1
  · have := hl k a; omega
theorem Ltb.mono {v : Value} {N N' : Nat} (h : Ltb v N) (hn : N ≤ N') : Ltb v N' := fun k hk => Nat.lt_of_lt_of_le (h k hk) hn
section
variable {w w' : World} {lo hi : Nat} {e : TypeId} {sz n : Nat} {v : Value} {xs : List Value}
theorem IR.of (h : w.ownsRow lo e sz v n xs) : IR w lo w.heap.size e sz v n xs := ⟨h, fun k hk => (h.lt k hk).2⟩
theorem IR.up (h : IR w lo hi e sz v n xs) (hb : Below w.heap.size w w') : IR w' lo hi e sz v n xs := ⟨own_up h.own hb, h.hi⟩
theorem IR.keep {r : Option Nat} (h : IR w lo hi e sz v n xs) (hg : w.grownBy w' r) (hd : ∀ k, r = some k → v.ownBlock = some k → False) : IR w' lo hi e sz v n xs := by
  refine ⟨World.ownsRow.kept h.own hg ?_, h.hi⟩
  cases hv : v.ownBlock with
  | none => exact .inl rfl
  | some k => exact .inr (fun e => hd k e.symm hv)
theorem IR.dj {lo' hi' sz' n' : Nat} {e' : TypeId} {v' : Value} {xs' : List Value} {w2 : World} (h : IR w lo hi e sz v n xs) (h' : IR w2 lo' hi' e' sz' v' n' xs') (hd : hi ≤ lo' ∨ hi' ≤ lo) : Dj v v' := fun k a b => by
  have h1 := (h.own.lt k a).1
  have h2 := h.hi k a
  have h3 := (h'.own.lt k b).1
  have h4 := h'.hi k b
  omega
theorem IR.dje {lo' hi' sz' n' : Nat} {e' : TypeId} {v' : Value} {xs' : List Value} (h : IR w lo hi e sz v n xs) (h' : IR w lo' hi' e' sz' v' n' xs') (hd : e ≠ e') : Dj v v' := fun k a b => by
  rcases own_ne h.own h'.own hd with h1 | h1
  · rw [h1] at b; cases b
  · exact h1 (b.trans a.symm)
theorem IR.rdb (h : IR w lo hi e sz v n xs) : Rdb w v n xs := own_rdb h.own
theorem IR.ltb (h : IR w lo hi e sz v n xs) : Ltb v hi := h.hi
theorem IR.cell {a : Option Addr} {c : Nat} (h : IR w lo hi e sz (.slice a n c) n xs) {j : Nat} (hj : j < n * sz) : ∃ g u, a = some ⟨g, 0, none⟩ ∧ w.cell? ⟨g, j, none⟩ = some u ∧ xs[j]? = some u ∧ w.frozen? ⟨g, j, none⟩ = false ∧ lo ≤ g := by
  obtain ⟨hl, ⟨h0, h00⟩ | ⟨g, cap, cur, hv, hb, hg, hn, hm, hs, ht⟩⟩ := h.own
  · subst h00; omega
  · cases hv
    have hx : ∃ u, xs[j]? = some u := ⟨xs[j]'(by omega), by simp⟩
    obtain ⟨u, hu⟩ := hx
    refine ⟨g, u, rfl, ?_, hu, frozen_of_row _ _ _ _ _ hg, hb⟩
    rcases own_rdb h.own with ⟨h1, _⟩ | ⟨g', cap', h1, _, _, h3⟩
    · cases h1
    · cases h1; exact h3 j u hu
theorem IR.set {g c j : Nat} {u : Value} (h : IR w lo hi e sz (.slice (some ⟨g, 0, none⟩) n c) n xs) : IR (w.setCell ⟨g, j, none⟩ u) lo hi e sz (.slice (some ⟨g, 0, none⟩) n c) n (xs.set j u) := by
  refine ⟨?_, h.hi⟩
  obtain ⟨hl, ⟨h0, h00⟩ | ⟨g', cap, cur, hv, hb, hg, hn, hm, hs, ht⟩⟩ := h.own
  · cases h0
  · cases hv
    refine ⟨by simpa using hl, .inr ⟨g, c, cur.setIfInBounds j u, rfl, hb, heap_setCell_same w g j cur e u hg, hn, hm, by simpa using hs, ?_⟩⟩
    rw [← ht, Array.toList_setIfInBounds, List.take_set]
end
theorem gb_set (w : World) (g j : Nat) (v : Value) : w.grownBy (w.setCell ⟨g, j, none⟩ v) (some g) := by
  have := (Below.refl 0 w).setCell (p := ⟨g, j, none⟩) (Nat.zero_le _) v
  exact ⟨this.os, this.tape, this.output, this.size, fun k hk hn => Below.heap_setCell w ⟨g, j, none⟩ v k (fun e => hn (by rw [e]))⟩
theorem gb_below {w w' : World} {B : Nat} {r : Option Nat} (h : w.grownBy w' r) (hB : B ≤ w.heap.size) (hr : ∀ k, r = some k → B ≤ k) : Below B w w' := (Below.refl B w).grown h hB hr
theorem Blk.keepG {w w' : World} {g : Nat} {T : TypeId} {cs : List Value} {r : Option Nat} (h : Blk w g T cs) (hg : w.grownBy w' r) (hd : r ≠ some g) : Blk w' g T cs := ⟨(hg.block g h.lt (fun e => hd e.symm)).trans h.out⟩
/-- a row filled up to k -/
def fillL (u : Value) (k : Nat) (xs : List Value) : List Value := List.replicate k u ++ xs.drop k
theorem fill_step (u : Value) {k : Nat} {xs : List Value} (h : k < xs.length) : (fillL u k xs).set k u = fillL u (k + 1) xs := by
  unfold fillL
  rw [List.set_append_right _ _ (by simp), List.length_replicate, Nat.sub_self, List.drop_eq_getElem_cons h, List.set_cons_zero, List.replicate_succ', List.append_assoc]
  rfl
theorem fill_zero (u : Value) (xs : List Value) : fillL u 0 xs = xs := by simp [fillL]
theorem fill_all (u : Value) (xs : List Value) : fillL u xs.length xs = List.replicate xs.length u := by simp [fillL]
/-- calls told, the first k with another number -/
def fillO (k : Nat) (l : List (Nat × Nat)) : List (Nat × Nat) := (l.take k).map (fun x => (99, x.2)) ++ l.drop k
theorem outs_set : ∀ (l : List (Nat × Nat)) (k : Nat), k < l.length → (l.flatMap outL).set (k * 2) (.int .i64 ((99 : Nat) : Int)) = (l.set k (99, (l.getD k (0, 0)).2)).flatMap outL
  | [], _, h => by simp at h
  | x :: r, 0, _ => by simp [outL]
  | x :: r, k + 1, h => by
    have ih := outs_set r k (by simpa using h)
    have e : (x :: r).getD (k + 1) (0, 0) = r.getD k (0, 0) := by simp [List.getD_eq_getElem?_getD]
    rw [List.flatMap_cons, List.set_cons_succ, List.flatMap_cons, e, ← ih]
    rw [List.set_append_right _ _ (by simp [outL]; omega)]
    congr 2
    simp [outL]
    omega
theorem fillO_step {k : Nat} {l : List (Nat × Nat)} (h : k < l.length) : ((fillO k l).flatMap outL).set (k * 2) (.int .i64 ((99 : Nat) : Int)) = (fillO (k + 1) l).flatMap outL := by
  have hl : (fillO k l).length = l.length := by simp [fillO]; omega
  rw [outs_set _ _ (by omega)]
  congr 1
  have hk : (l.take k).length = k := by simp; omega
  have e2 : (fillO k l).getD k (0, 0) = l[k] := by
    unfold fillO
    rw [List.getD_eq_getElem?_getD, List.getElem?_append_right (by simp; omega), List.length_map, hk, Nat.sub_self, List.drop_eq_getElem_cons h]
    simp [h]
  rw [e2]
  unfold fillO
  rw [List.set_append_right _ _ (by simp; omega), List.length_map, hk, Nat.sub_self, List.drop_eq_getElem_cons h, List.set_cons_zero, List.take_add_one, List.getElem?_eq_getElem h]
  simp only [Option.toList_some, List.map_append, List.map_cons, List.map_nil, List.append_assoc, List.cons_append, List.nil_append]
/-- an append: the old slice reads what it read -/
theorem app_keeps {P : Program} {w : World} {ops : Array Oper} {rest : List Oper} {o : Oper} {a : Act} {Q : Exit → Act → World → Prop} (hgd : o.guard = none) (s x : Operand) (t : TypeId)
    (ho : o.op = .call { callee := .builtin .append, args := #[s, x], argTypes := #[t, t] })
    (base : Nat) (e : TypeId) (i : TypeInfo) (z : Value) (sz bytes : Nat) (ht : P.underlying t = some (.slice e)) (hi : P.info? e = some i) (hz : i.zero = some z)
    (hsize : i.size = sz) (hby : i.bytes = bytes) (hzs : z.cells.size = sz) (hsz : 0 < sz)
    (v : Value) (n : Nat) (xs : List Value) (hs : a.eval s = v) (hown : w.ownsRow base e sz v n xs)
    (ad : Addr) (m c : Nat) (news : List Value) (hx : a.eval x = .slice (some ad) m c) (hl : news.length = m * sz) (hnews : ∀ j u, news[j]? = some u → w.cell? (ad.add j) = some u) (h1 : ∀ u ∈ news, u.oneCell' = true)
    (h63 : n + m ≤ maxLen) (hbytes : (n + m) * bytes ≤ 140737488355328) (hbase : base ≤ w.heap.size)
    (h : ∀ v' w', w'.ownsRow base e sz v' (n + m) (xs ++ news) → w.grownBy w' v.ownBlock → Rdb w' v n xs → Frb v' v w.heap.size → wpList P ops Q rest (a.put o.dst v') w') : wpList P ops Q (o :: rest) a w := by
  have hxl := hown.1
  rcases hown.2 with ⟨h0, h00⟩ | ⟨g, cp, cur, h0, hb, h3, hc, _, _, h7⟩
  · subst h0 h00
    refine wpList_append_own _ hgd s x t ho w.heap.size e i z sz bytes ht hi hz hsize hby hzs hsz _ _ xs hs ⟨hxl, .inl ⟨rfl, rfl⟩⟩ ad m c news hx hl hnews h1 h63 hbytes (Nat.le_refl _) fun v' w' h2 h3 _ => h v' w' (own_base h2 hbase) h3 (.inl ⟨rfl, rfl⟩) (fun k hk => .inr (h2.lt k hk).1)
  · subst h0
    by_cases hr : n + m ≤ cp
    · refine wpList_append_own_spare _ hgd s x t ho base e i sz ht hi hsize g n cp xs hs hown ad m c news hx hl hnews h1 hr fun w' h2 h3 => h _ w' h2 h3 ?_ (fun k hk => .inl hk)
      refine .inr ⟨g, cp, rfl, hc, (h2.lt g rfl).2, fun j u hu => ?_⟩
      have hj : j < xs.length := (List.getElem?_eq_some_iff.1 hu).1
      rw [h2.cellAt j (by rw [Nat.add_mul]; omega), List.getElem?_append_left hj]
      exact hu
    · have hlt : g < w.heap.size := (Array.getElem?_eq_some_iff.1 h3).1
      refine wpList_append_grows w hgd s x t ho e i z sz bytes ht hi hz hsize hby hzs hsz (some ⟨g, 0, none⟩) n cp xs hs (fun e => by cases e) hxl (fun b hb' => by cases hb'; exact hown.cells rfl) ad m c news hx hl hnews h1 (by omega) h63 hbytes fun v' w' r1 r2 => h v' w' (own_base r1 hbase) ⟨r2.os, r2.tape, r2.output, r2.size, fun k hk _ => r2.block k hk (by simp)⟩ ?_ (fun k hk => .inr (r1.lt k hk).1)
      refine .inr ⟨g, cp, rfl, hc, Nat.lt_of_lt_of_le hlt r2.size, fun j u hu => ?_⟩
      have hj : j < xs.length := (List.getElem?_eq_some_iff.1 hu).1
      rw [World.cell?_of_block (a := ⟨g, j, none⟩) (r2.block g hlt (by simp)), hown.cellAt j (by omega)]
      exact hu
/-- an append to nil of what a slice reads -/
theorem app_nil {P : Program} {w : World} {ops : Array Oper} {rest : List Oper} {o : Oper} {a : Act} {Q : Exit → Act → World → Prop} (hgd : o.guard = none) (s x : Operand) (t : TypeId)
    (ho : o.op = .call { callee := .builtin .append, args := #[s, x], argTypes := #[t, t] })
    (e : TypeId) (i : TypeInfo) (z : Value) (sz bytes : Nat) (ht : P.underlying t = some (.slice e)) (hi : P.info? e = some i) (hz : i.zero = some z)
    (hsize : i.size = sz) (hby : i.bytes = bytes) (hzs : z.cells.size = sz) (hsz : 0 < sz) (hs : a.eval s = .slice none 0 0)
    (u : Value) (m : Nat) (news : List Value) (hx : a.eval x = u) (hR : Rda w u m news) (hl : news.length = m * sz) (h1 : ∀ u ∈ news, u.oneCell' = true) (h63 : m ≤ maxLen) (hbytes : m * bytes ≤ 140737488355328)
    (h : ∀ v' w', w'.ownsRow w.heap.size e sz v' m news → Below w.heap.size w w' → wpList P ops Q rest (a.put o.dst v') w') : wpList P ops Q (o :: rest) a w := by
  have hnil : w.ownsRow w.heap.size e sz (.slice none 0 0) 0 [] := ⟨by simp, .inl ⟨rfl, rfl⟩⟩
  rcases hR with ⟨rfl, rfl⟩ | ⟨ad, cap, rfl, _, hc⟩
  · obtain rfl : news = [] := List.eq_nil_of_length_eq_zero (by omega)
    exact wpList_append_own_none hgd s x t ho w.heap.size e i sz ht hi _ 0 [] hs hnil hx (h _ _ hnil (Below.refl _ _))
  · refine wpList_append_own _ hgd s x t ho w.heap.size e i z sz bytes ht hi hz hsize hby hzs hsz _ 0 [] hs hnil ad m cap news hx hl hc h1 (by omega) (by rw [Nat.zero_add]; exact hbytes) (Nat.le_refl _) fun v' w' h2 h3 _ => ?_
    rw [Nat.zero_add, List.nil_append] at h2
    exact h v' w' h2 ((Below.refl _ _).grown h3 (Nat.le_refl _) (fun k hk => by cases hk))
end Go.Proofs.YtiafodeabdhcoaaGreatDoor
