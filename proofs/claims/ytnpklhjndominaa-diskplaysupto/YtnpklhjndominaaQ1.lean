import Derived.Test.YtnpklhjndominaaQ0
namespace Go.Proofs.Ytnpklhjndominaa
open Go.RowKit

/-- a list of writes of the document's disk: each a sector and a list of bytes -/
def encR (s a : Nat) (d : Value) : List Value := [.int .i64 (s : Int), .int .i64 (a : Int), d]
def encRs : List Rc → List Value → List Value
  | x :: r, d :: ds => encR x.1 x.2.1 d ++ encRs r ds
  | _, _ => []
theorem encRs_len : ∀ (rl : List Rc) (ds : List Value), ds.length = rl.length → (encRs rl ds).length = rl.length * 3
  | [], [], _ => rfl
  | x :: r, d :: ds, h => by
    show (encR x.1 x.2.1 d ++ encRs r ds).length = _
    rw [List.length_append, encRs_len r ds (by simpa using h)]; simp [encR]; omega
theorem encRs_at : ∀ (rl : List Rc) (ds : List Value) (i j : Nat) (x : Rc) (d v : Value), rl[i]? = some x → ds[i]? = some d → (encR x.1 x.2.1 d)[j]? = some v → (encRs rl ds)[i * 3 + j]? = some v
  | [], _, i, j, x, d, v, h, _, _ => by simp at h
  | y :: r, [], i, j, x, d, v, _, h, _ => by simp at h
  | y :: r, e :: ds, 0, j, x, d, v, h1, h2, h3 => by
    simp at h1 h2; subst h1; subst h2
    have hj : j < 3 := by have := (List.getElem?_eq_some_iff.1 h3).1; simpa [encR] using this
    show (encR y.1 y.2.1 e ++ encRs r ds)[0 * 3 + j]? = _
    rw [List.getElem?_append_left (by simp [encR]; omega), ← h3]; congr 1; omega
  | y :: r, e :: ds, i + 1, j, x, d, v, h1, h2, h3 => by
    show (encR y.1 y.2.1 e ++ encRs r ds)[(i + 1) * 3 + j]? = _
    rw [List.getElem?_append_right (by simp [encR]; omega), ← encRs_at r ds i j x d v (by simpa using h1) (by simpa using h2) h3]
    congr 1; simp [encR]; omega
theorem encRs_snoc : ∀ (rl : List Rc) (ds : List Value) (x : Rc) (d : Value), ds.length = rl.length → encRs (rl ++ [x]) (ds ++ [d]) = encRs rl ds ++ encR x.1 x.2.1 d
  | [], [], _, _, _ => by simp [encRs]
  | y :: r, e :: ds, x, d, h => by
    show encR y.1 y.2.1 e ++ encRs (r ++ [x]) (ds ++ [d]) = (encR y.1 y.2.1 e ++ encRs r ds) ++ encR x.1 x.2.1 d
    rw [encRs_snoc r ds x d (by simpa using h), List.append_assoc]
structure RecsAt (w : World) (v : Value) (rl : List Rc) (ds : List Value) (G : Nat → Prop) : Prop where
  len : ds.length = rl.length
  row : w.ownsRow 0 51 3 v rl.length (encRs rl ds)
  dat : ∀ (i : Nat) (x : Rc), rl[i]? = some x → x.1 < 1024 ∧ Rcs x ∧ ∃ d, ds[i]? = some d ∧ Rd w d x.2.2 ∧ ∀ b, d.ownBlock = some b → G b
def Dsk.ar (D : Dsk) : Int := if D.armed then (D.left : Int) else -1
structure RkAt (w : World) (R : Nat) (lv wv : Value) (rl : List Rc) (ds es : List Value) (G : Nat → Prop) (D : Dsk) : Prop where
  top : w.heap[R]? = some (.cells #[lv, wv, .int .i64 D.ar, .bool D.down, .int .i64 (D.acts : Int)] 48 (0, 0))
  lan : RecsAt w lv rl ds G
  wai : RecsAt w wv (lf D.c) es G
  nR : lv.ownBlock ≠ some R ∧ wv.ownBlock ≠ some R ∧ ¬ G R
  nG : ∀ b, G b → lv.ownBlock ≠ some b ∧ wv.ownBlock ≠ some b ∧ b < w.heap.size
  nL : ∀ b, lv.ownBlock = some b → wv.ownBlock ≠ some b
  med : ∀ s, s < 1024 → D.M s = playR zro rl s
  lft : D.left < 9223372036854775808
/-- the document's disk at block R, in the state D -/
def RkA (R : Nat) (D : Dsk) (N : Nat) : Asn := fun w F => ∃ lv wv rl ds es G, RkAt w R lv wv rl ds es G D ∧ rl.length ≤ N ∧ ∀ b, F b ↔ b = R ∨ lv.ownBlock = some b ∨ wv.ownBlock = some b ∨ G b
theorem rd_keep {w w' : World} {v : Value} {zs : List Nat} (h : Rd w v zs) (hk : ∀ b, v.ownBlock = some b → w'.heap[b]? = w.heap[b]?) : Rd w' v zs := by
  rcases h with ⟨rfl, rfl⟩ | ⟨x, cap, rfl, hc⟩
  · exact .inl ⟨rfl, rfl⟩
  · refine .inr ⟨x, cap, rfl, fun j u hu => ?_⟩
    rw [World.cell?_of_block]
    · exact hc j u hu
    · rw [show (x.add j).block = x.block by unfold Addr.add; split <;> rfl]
      exact hk x.block rfl
theorem RecsAt.keep {w w' : World} {v : Value} {rl : List Rc} {ds : List Value} {G : Nat → Prop} (h : RecsAt w v rl ds G) (hk : ∀ b, v.ownBlock = some b ∨ G b → w'.heap[b]? = w.heap[b]?) : RecsAt w' v rl ds G :=
  ⟨h.len, ownsRow_keep h.row (fun b hb => hk b (.inl hb)), fun i x hx => by
    obtain ⟨q1, q2, d, q3, q4, q5⟩ := h.dat i x hx
    exact ⟨q1, q2, d, q3, rd_keep q4 (fun b hb => hk b (.inr (q5 b hb))), q5⟩⟩
theorem RkAt.lt {w : World} {R : Nat} {lv wv : Value} {rl : List Rc} {ds es : List Value} {G : Nat → Prop} {D : Dsk} (h : RkAt w R lv wv rl ds es G D) : R < w.heap.size := (Array.getElem?_eq_some_iff.1 h.top).1
theorem RkAt.keep {w w' : World} {R : Nat} {lv wv : Value} {rl : List Rc} {ds es : List Value} {G : Nat → Prop} {D : Dsk} (h : RkAt w R lv wv rl ds es G D) (hs : w.heap.size ≤ w'.heap.size) (hk : ∀ b, b = R ∨ lv.ownBlock = some b ∨ wv.ownBlock = some b ∨ G b → w'.heap[b]? = w.heap[b]?) : RkAt w' R lv wv rl ds es G D :=
  ⟨by rw [hk R (.inl rfl)]; exact h.top, h.lan.keep (fun b hb => hk b (hb.elim (fun e => .inr (.inl e)) (fun e => .inr (.inr (.inr e))))), h.wai.keep (fun b hb => hk b (hb.elim (fun e => .inr (.inr (.inl e))) (fun e => .inr (.inr (.inr e))))),
   h.nR, fun b hb => ⟨(h.nG b hb).1, (h.nG b hb).2.1, Nat.lt_of_lt_of_le (h.nG b hb).2.2 hs⟩, h.nL, h.med, h.lft⟩
theorem good_rk (R : Nat) (D : Dsk) (N : Nat) : Good (RkA R D N) := by
  refine ⟨?_, ?_⟩
  · rintro W H ⟨lv, wv, rl, ds, es, G, h, _, he⟩ b hb
    rcases (he b).1 hb with rfl | e | e | e
    · exact h.lt
    · exact ownsRow_lt h.lan.row e
    · exact ownsRow_lt h.wai.row e
    · exact (h.nG b e).2.2
  · rintro W W' H ⟨lv, wv, rl, ds, es, G, h, hn, he⟩ hs hk
    exact ⟨lv, wv, rl, ds, es, G, h.keep hs (fun b hb => hk b ((he b).2 hb)), hn, he⟩
theorem newR_any (w : World) : Calls Try.prog 5 #[] w fun e w' => e = .returned (tp w.heap.size) ∧ RkA w.heap.size D0 0 w' (fun b => b = w.heap.size) ∧ Below w.heap.size w w' := by
  go_enter Try.func5, Try.ntmps5
  go_wp2
  go_ret
  refine ⟨rfl, ⟨.slice none 0 0, .slice none 0 0, [], [], [], fun _ => False, ⟨heap_alloc_last _ _, ⟨rfl, ⟨rfl, .inl ⟨rfl, rfl⟩⟩, fun i x hx => by simp at hx⟩, ⟨rfl, ⟨rfl, .inl ⟨rfl, rfl⟩⟩, fun i x hx => by simp [D0, lf] at hx⟩, by simp [Value.ownBlock], fun b h => h.elim, by simp [Value.ownBlock], fun _ _ => rfl, by simp [D0]⟩, Nat.le_refl _, fun b => by simp [Value.ownBlock]⟩, (Below.refl _ _).alloc (Nat.le_refl _) _⟩
section
variable {w : World} {R N : Nat} {D : Dsk} {F : Nat → Prop}
theorem actsR_any (h : RkA R D N w F) : Calls Try.prog 46 #[tp R] w fun e w' => e = .returned (.int .i64 (D.acts : Int)) ∧ w' = w := by
  obtain ⟨lv, wv, rl, ds, es, G, h, _, he⟩ := h
  have c4 : w.cell? ⟨R, 4, none⟩ = some (.int .i64 (D.acts : Int)) := by rw [cell_of_row _ _ _ _ _ _ h.top]; rfl
  clear h
  go_enter Try.func46, Try.ntmps46
  go_wp2
  go_ret
  exact ⟨rfl, rfl⟩
theorem thereR_any (z : Int) (w : World) : Calls Try.prog 31 #[.int .i64 z] w fun e w' => e = .returned (.bool (decide (0 ≤ z ∧ z < 1024))) ∧ w' = w := by
  rcases Int.lt_or_le z 0 with h | h
  · have h1 : decide (0 ≤ z ∧ z < 1024) = false := by simp; omega
    rw [h1]
    have hd : decide (0 ≤ z) = false := by simp; omega
    clear h1
    go_enter Try.func31, Try.ntmps31
    go_wp2
    go_ret
    exact ⟨rfl, rfl⟩
  · have h1 : decide (0 ≤ z ∧ z < 1024) = decide (z < 1024) := by simp [h]
    rw [h1]
    have hd : decide (0 ≤ z) = true := by simp [h]
    clear h1
    go_enter Try.func31, Try.ntmps31
    go_wp2
    go_ret
    exact ⟨rfl, rfl⟩
end
end Go.Proofs.Ytnpklhjndominaa
