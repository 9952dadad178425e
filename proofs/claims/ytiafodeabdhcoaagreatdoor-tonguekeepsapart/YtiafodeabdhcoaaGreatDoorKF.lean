import Derived.Test.YtiafodeabdhcoaaGreatDoorKD
namespace Go.Proofs.YtiafodeabdhcoaaGreatDoor
open Go.RowKit
/-- a row that reads, and where its block may lie -/
structure Rw (w : World) (B : Nat → Prop) (v : Value) (n : Nat) (xs : List Value) : Prop where
  rd : Rdb w v n xs
  bn : ∀ k, v.ownBlock = some k → B k
def Btw (a b : Nat) : Nat → Prop := fun k => a ≤ k ∧ k < b
def Bon (v : Value) (c : Nat) : Nat → Prop := fun k => v.ownBlock = some k ∨ c ≤ k
section
variable {w w' : World} {B : Nat → Prop} {v : Value} {n : Nat} {xs : List Value}
theorem Rw.keep {r : Option Nat} (h : Rw w B v n xs) (hg : w.grownBy w' r) (hd : ∀ k, r = some k → B k → False) : Rw w' B v n xs := ⟨h.rd.keep hg (fun k a b => hd k a (h.bn k b)), h.bn⟩
theorem Rw.up (h : Rw w B v n xs) (hb : Below w.heap.size w w') : Rw w' B v n xs := ⟨h.rd.up hb, h.bn⟩
theorem Rw.at (h : Rw w B v n xs) {j : Nat} {u : Value} (hu : xs[j]? = some u) (hn : 0 < n) : ∃ g c, v = .slice (some ⟨g, 0, none⟩) n c ∧ w.cell? ⟨g, j, none⟩ = some u := by
  rcases h.rd with ⟨_, h1⟩ | ⟨g, c, h1, _, _, h2⟩
  · omega
  · exact ⟨g, c, h1, h2 j u hu⟩
end
theorem IR.rwb {w : World} {lo hi : Nat} {e : TypeId} {sz n : Nat} {v : Value} {xs : List Value} (h : IR w lo hi e sz v n xs) : Rw w (Btw lo hi) v n xs := ⟨h.rdb, fun k hk => ⟨(h.own.lt k hk).1, h.hi k hk⟩⟩
theorem gb_al {w w' : World} {b : Obj} {r : Option Nat} (hg : (w.alloc b).grownBy w' r) : w.grownBy w' r := by
  have h := (Below.refl w.heap.size w).alloc (Nat.le_refl _) b
  exact ⟨hg.os.trans h.os, hg.tape.trans h.tape, hg.output.trans h.output, Nat.le_trans h.size hg.size, fun k hk hn => (hg.block k (Nat.lt_of_lt_of_le hk h.size) hn).trans (h.block k hk)⟩
theorem blk_of {v : Value} {k q : Nat} (h : v.ownBlock = some k) (h2 : v.ownBlock = some q) : k = q := by rw [h] at h2; exact Option.some.inj h2
/-- what no append writes -/
structure Kr (w : World) (lo : Nat → Nat) (M p q : Nat) (mc : List Value) (vv vk vb vo : Value) (xv xk xb xo : List Value) (no nw nd : Nat) (wr : World) : Prop where
  be : Below w.heap.size w wr
  rM : Blk wr M 26 mc
  rv : Rw wr (Btw (lo 3) (lo 4)) vv nw xv
  rk : Rw wr (Btw (lo 5) (lo 6)) vk nd xk
  rb : Rw wr (Btw (lo 5) (lo 6)) vb nd xb
  ro : Rw wr (Btw p q) vo no xo
  ch : w.heap.size ≤ lo 0 ∧ lo 0 ≤ lo 1 ∧ lo 1 ≤ M ∧ M < lo 2 ∧ lo 2 ≤ lo 3 ∧ lo 3 ≤ lo 4 ∧ lo 4 ≤ lo 5 ∧ lo 5 ≤ lo 6 ∧ lo 6 ≤ p ∧ lo 6 ≤ wr.heap.size
section
variable {w : World} {lo : Nat → Nat} {M p q : Nat} {mc : List Value} {vv vk vb vo : Value} {xv xk xb xo : List Value} {no nw nd : Nat} {wr w' : World}
theorem Kr.up (h : Kr w lo M p q mc vv vk vb vo xv xk xb xo no nw nd wr) (hb : Below wr.heap.size wr w') : Kr w lo M p q mc vv vk vb vo xv xk xb xo no nw nd w' :=
  ⟨h.be.trans (hb.mono h.be.size), h.rM.below hb h.rM.lt, h.rv.up hb, h.rk.up hb, h.rb.up hb, h.ro.up hb, by have := h.ch; have := hb.size; omega⟩
theorem Kr.keep {r : Option Nat} (h : Kr w lo M p q mc vv vk vb vo xv xk xb xo no nw nd wr) (hg : wr.grownBy w' r) (hr : ∀ k, r = some k → Btw (lo 0) (lo 1) k ∨ Btw (lo 2) (lo 3) k ∨ Btw (lo 4) (lo 5) k) : Kr w lo M p q mc vv vk vb vo xv xk xb xo no nw nd w' := by
  have hc := h.ch
  refine ⟨h.be.trans (gb_below hg h.be.size ?_), h.rM.keepG hg ?_, h.rv.keep hg ?_, h.rk.keep hg ?_, h.rb.keep hg ?_, h.ro.keep hg ?_, by have := hg.size; omega⟩
  · intro k hk
    have := hr k hk
    unfold Btw at this
    omega
  · intro hk
    have := hr M hk
    unfold Btw at this
    omega
  all_goals
    intro k hk h2
    have := hr k hk
    unfold Btw at this h2
    omega
end
/-- all rows, as they are left -/
structure Kq (w : World) (lo : Nat → Nat) (M p q : Nat) (mc : List Value) (vv vk vb vo vm vw vn va vx vy vz vu : Value) (xv xk xb xo xm xw xn xa xx xy xz xu : List Value) (no nw nd : Nat) (wr : World) : Prop where
  kr : Kr w lo M p q mc vv vk vb vo xv xk xb xo no nw nd wr
  rm : Rw wr (fun _ => True) vm no xm
  rw : Rw wr (fun _ => True) vw nw xw
  rn : Rw wr (fun _ => True) vn nd xn
  ra : Rw wr (fun _ => True) va nd xa
  rx : Rw wr (fun _ => True) vx (nw + 1) xx
  ry : Rw wr (fun _ => True) vy (nd + 1) xy
  rz : Rw wr (fun _ => True) vz (nd + 1) xz
  ru : Rw wr (fun _ => True) vu (no + 1) xu
theorem Rw.any {w : World} {B : Nat → Prop} {v : Value} {n : Nat} {xs : List Value} (h : Rw w B v n xs) : Rw w (fun _ => True) v n xs := ⟨h.rd, fun _ _ => trivial⟩
theorem Kq.up {w : World} {lo : Nat → Nat} {M p q : Nat} {mc : List Value} {vv vk vb vo vm vw vn va vx vy vz vu : Value} {xv xk xb xo xm xw xn xa xx xy xz xu : List Value} {no nw nd : Nat} {wr w' : World}
    (h : Kq w lo M p q mc vv vk vb vo vm vw vn va vx vy vz vu xv xk xb xo xm xw xn xa xx xy xz xu no nw nd wr) (hb : Below wr.heap.size wr w') : Kq w lo M p q mc vv vk vb vo vm vw vn va vx vy vz vu xv xk xb xo xm xw xn xa xx xy xz xu no nw nd w' :=
  ⟨h.kr.up hb, h.rm.up hb, h.rw.up hb, h.rn.up hb, h.ra.up hb, h.rx.up hb, h.ry.up hb, h.rz.up hb, h.ru.up hb⟩
/-- behind the first append: to the words -/
structure K1s (w : World) (lo : Nat → Nat) (M p q : Nat) (mc : List Value) (vv vk vb vo vm vw vn va vx : Value) (xv xk xb xo : List Value) (xm : List (Nat × Nat)) (xw xn xa xx : List Value) (no nw nd : Nat) (wr : World) : Prop where
  kr : Kr w lo M p q mc vv vk vb vo xv xk xb xo no nw nd wr
  im : IR wr (lo 0) (lo 1) 32 2 vm no (xm.flatMap outL)
  inn : IR wr (lo 4) (lo 5) 9 1 vn nd xn
  ia : IR wr (lo 4) (lo 5) 3 1 va nd xa
  rw : Rw wr (Btw (lo 2) (lo 3)) vw nw xw
  rx : Rw wr (Bon vw (lo 6)) vx (nw + 1) xx
/-- behind the second: to the names -/
structure K2s (w : World) (lo : Nat → Nat) (M p q : Nat) (mc : List Value) (vv vk vb vo vm vw vn va vx vy : Value) (xv xk xb xo : List Value) (xm : List (Nat × Nat)) (xw xn xa xx xy : List Value) (no nw nd : Nat) (wr : World) : Prop where
  kr : Kr w lo M p q mc vv vk vb vo xv xk xb xo no nw nd wr
  im : IR wr (lo 0) (lo 1) 32 2 vm no (xm.flatMap outL)
  ia : IR wr (lo 4) (lo 5) 3 1 va nd xa
  rw : Rw wr (Btw (lo 2) (lo 3)) vw nw xw
  rx : Rw wr (Bon vw (lo 6)) vx (nw + 1) xx
  rn : Rw wr (Btw (lo 4) (lo 5)) vn nd xn
  ry : Rw wr (Bon vn (lo 6)) vy (nd + 1) xy
  dj : Dj vn va
/-- behind the third: to the addresses -/
structure K3s (w : World) (lo : Nat → Nat) (M p q : Nat) (mc : List Value) (vv vk vb vo vm vw vn va vx vy vz : Value) (xv xk xb xo : List Value) (xm : List (Nat × Nat)) (xw xn xa xx xy xz : List Value) (no nw nd : Nat) (wr : World) : Prop where
  kr : Kr w lo M p q mc vv vk vb vo xv xk xb xo no nw nd wr
  im : IR wr (lo 0) (lo 1) 32 2 vm no (xm.flatMap outL)
  rw : Rw wr (Btw (lo 2) (lo 3)) vw nw xw
  rx : Rw wr (Bon vw (lo 6)) vx (nw + 1) xx
  rn : Rw wr (Btw (lo 4) (lo 5)) vn nd xn
  ry : Rw wr (Bon vn (lo 6)) vy (nd + 1) xy
  ra : Rw wr (Btw (lo 4) (lo 5)) va nd xa
  rz : Rw wr (Bon va (lo 6)) vz (nd + 1) xz
section
variable {w : World} {lo : Nat → Nat} {M p q : Nat} {mc : List Value} {vv vk vb vo vm vw vn va vx vy vz vu v' : Value} {xv xk xb xo xw xn xa xx xy xz : List Value} {xm : List (Nat × Nat)} {no nw nd : Nat} {wr w' : World} {b : Obj} {u : Value} {us : List Value}
theorem rw_new {lo' c : Nat} {e : TypeId} {sz n : Nat} {v v' : Value} {xs : List Value} {w0 : World} (ho : w'.ownsRow lo' e sz v' n xs) (hf : Frb v' v w0.heap.size) (hc : c ≤ w0.heap.size) : Rw w' (Bon v c) v' n xs := ⟨own_rdb ho, fun k hk => by
  rcases hf k hk with h | h
  · exact .inl h
  · exact .inr (Nat.le_trans hc h)⟩
theorem Ks.app (h : Ks w lo M mc vm vw vv vn va vk vb xm xw xv xn xa xk xb no nw nd wr) (hO : IR wr p q 32 2 vo no xo) (hp : lo 6 ≤ p) (ho : w'.ownsRow (lo 2) 30 1 v' (nw + 1) (xw ++ us)) (hg : (wr.alloc b).grownBy w' vw.ownBlock) (hr : Rdb w' vw nw xw) (hf : Frb v' vw (wr.alloc b).heap.size) :
    K1s w lo M p q mc vv vk vb vo vm vw vn va v' xv xk xb xo xm xw xn xa (xw ++ us) no nw nd w' := by
  have hg' := gb_al hg
  have hc := h.ch
  have hW := h.rw.rwb.bn
  have hsz : wr.heap.size ≤ (wr.alloc b).heap.size := by simp
  have kr : Kr w lo M p q mc vv vk vb vo xv xk xb xo no nw nd wr := ⟨h.be, h.rM, h.rv.rwb, h.rk.rwb, h.rb.rwb, hO.rwb, by omega⟩
  refine ⟨kr.keep hg' (fun k hk => .inr (.inl (hW k hk))), h.rm.keep hg' ?_, h.rn.keep hg' ?_, h.ra.keep hg' ?_, ⟨hr, hW⟩, rw_new ho hf (by omega)⟩
  · exact fun k a b => h.rw.dj h.rm (.inr (by omega)) k a b
  · exact fun k a b => h.rw.dj h.rn (.inl (by omega)) k a b
  · exact fun k a b => h.rw.dj h.ra (.inl (by omega)) k a b
theorem K1s.app (h : K1s w lo M p q mc vv vk vb vo vm vw vn va vx xv xk xb xo xm xw xn xa xx no nw nd wr) (ho : w'.ownsRow (lo 4) 9 1 v' (nd + 1) (xn ++ us)) (hg : (wr.alloc b).grownBy w' vn.ownBlock) (hr : Rdb w' vn nd xn) (hf : Frb v' vn (wr.alloc b).heap.size) :
    K2s w lo M p q mc vv vk vb vo vm vw vn va vx v' xv xk xb xo xm xw xn xa xx (xn ++ us) no nw nd w' := by
  have hg' := gb_al hg
  have hc := h.kr.ch
  have hN := h.inn.rwb.bn
  have hW := h.rw.bn
  have hX := h.rx.bn
  have hsz : wr.heap.size ≤ (wr.alloc b).heap.size := by simp
  refine ⟨h.kr.keep hg' (fun k hk => .inr (.inr (hN k hk))), h.im.keep hg' ?_, h.ia.keep hg' ?_, h.rw.keep hg' ?_, h.rx.keep hg' ?_, ⟨hr, hN⟩, rw_new ho hf (by omega), h.inn.dje h.ia (by decide)⟩
  · exact fun k a b => h.inn.dj h.im (.inr (by omega)) k a b
  · exact fun k a b => h.inn.dje h.ia (by decide) k a b
  · intro k a b
    have := hN k a
    unfold Btw at this b
    omega
  · intro k a b
    have h1 := hN k a
    rcases b with b | b
    · have := hW k b
      unfold Btw at this h1
      omega
    · unfold Btw at h1
      omega
theorem K2s.app (h : K2s w lo M p q mc vv vk vb vo vm vw vn va vx vy xv xk xb xo xm xw xn xa xx xy no nw nd wr) (ho : w'.ownsRow (lo 4) 3 1 v' (nd + 1) (xa ++ us)) (hg : (wr.alloc b).grownBy w' va.ownBlock) (hr : Rdb w' va nd xa) (hf : Frb v' va (wr.alloc b).heap.size) :
    K3s w lo M p q mc vv vk vb vo vm vw vn va vx vy v' xv xk xb xo xm xw xn xa xx xy (xa ++ us) no nw nd w' := by
  have hg' := gb_al hg
  have hc := h.kr.ch
  have hA := h.ia.rwb.bn
  have hW := h.rw.bn
  have hN := h.rn.bn
  have hsz : wr.heap.size ≤ (wr.alloc b).heap.size := by simp
  refine ⟨h.kr.keep hg' (fun k hk => .inr (.inr (hA k hk))), h.im.keep hg' ?_, h.rw.keep hg' ?_, h.rx.keep hg' ?_, ⟨h.rn.rd.keep hg' ?_, hN⟩, h.ry.keep hg' ?_, ⟨hr, hA⟩, rw_new ho hf (by omega)⟩
  · exact fun k a b => h.ia.dj h.im (.inr (by omega)) k a b
  · intro k a b
    have := hA k a
    unfold Btw at this b
    omega
  · intro k a b
    have h1 := hA k a
    rcases b with b | b
    · have := hW k b
      unfold Btw at this h1
      omega
    · unfold Btw at h1
      omega
  · exact fun k a b => h.dj k b a
  · intro k a b
    have h1 := hA k a
    rcases b with b | b
    · exact h.dj k b a
    · unfold Btw at h1
      omega
theorem K3s.app (h : K3s w lo M p q mc vv vk vb vo vm vw vn va vx vy vz xv xk xb xo xm xw xn xa xx xy xz no nw nd wr) (ho : w'.ownsRow (lo 0) 32 2 v' (no + 1) (xm.flatMap outL ++ us)) (hg : (wr.alloc b).grownBy w' vm.ownBlock) (hr : Rdb w' vm no (xm.flatMap outL)) :
    Kq w lo M p q mc vv vk vb vo vm vw vn va vx vy vz v' xv xk xb xo (xm.flatMap outL) xw xn xa xx xy xz (xm.flatMap outL ++ us) no nw nd w' := by
  have hg' := gb_al hg
  have hc := h.kr.ch
  have hM := h.im.rwb.bn
  have hW := h.rw.bn
  have hN := h.rn.bn
  have hA := h.ra.bn
  have two : ∀ {B : Nat → Prop} {a c : Nat}, (∀ k, B k → (a ≤ k ∧ k < c) ∨ lo 6 ≤ k) → lo 2 ≤ a → ∀ k, vm.ownBlock = some k → B k → False := by
    intro B a c h1 h2 k hk hB
    have h3 := hM k hk
    have h4 := h1 k hB
    unfold Btw at h3
    omega
  refine ⟨h.kr.keep hg' (fun k hk => .inl (hM k hk)), ⟨hr, fun _ _ => trivial⟩, (h.rw.keep hg' (two (fun k hk => .inl hk) (Nat.le_refl _))).any, (h.rn.keep hg' (two (fun k hk => .inl hk) (by omega))).any, (h.ra.keep hg' (two (fun k hk => .inl hk) (by omega))).any, (h.rx.keep hg' (two (fun k hk => hk.imp_left (hW k)) (Nat.le_refl _))).any, (h.ry.keep hg' (two (fun k hk => hk.imp_left (hN k)) (by omega))).any, (h.rz.keep hg' (two (fun k hk => hk.imp_left (hA k)) (by omega))).any, ⟨own_rdb ho, fun _ _ => trivial⟩⟩
end
theorem outs_at {l : List (Nat × Nat)} {i : Nat} {x : Nat × Nat} (hx : l[i]? = some x) : (l.flatMap outL)[i * 2]? = some (.int .i64 (x.1 : Nat)) ∧ (l.flatMap outL)[i * 2 + 1]? = some (.int .u32 (x.2 : Nat)) := by
  obtain ⟨hi, rfl⟩ := List.getElem?_eq_some_iff.1 hx
  exact ⟨cat_at outL 2 outL_len hi (j := 0) (by omega), cat_at outL 2 outL_len hi (j := 1) (by omega)⟩
theorem Rw.outs {w : World} {B : Nat → Prop} {v : Value} {n : Nat} {l : List (Nat × Nat)} (h : Rw w B v n (l.flatMap outL)) {i : Nat} {x : Nat × Nat} (hx : l[i]? = some x) (hn : 0 < n) : ∃ g c, v = .slice (some ⟨g, 0, none⟩) n c ∧ w.cell? ⟨g, i * 2, none⟩ = some (.int .i64 (x.1 : Nat)) ∧ w.cell? ⟨g, i * 2 + 1, none⟩ = some (.int .u32 (x.2 : Nat)) := by
  rcases h.rd with ⟨_, h1⟩ | ⟨g, c, h1, _, _, h2⟩
  · omega
  · exact ⟨g, c, h1, h2 _ _ (outs_at hx).1, h2 _ _ (outs_at hx).2⟩
theorem fillO_all (l : List (Nat × Nat)) : fillO l.length l = l.map fun x => (99, x.2) := by simp [fillO]
theorem below_drew (w : World) (d : Nat) : Below w.heap.size w (w.drewN d) := ⟨rfl, rfl, rfl, Nat.le_refl _, fun _ _ => rfl⟩
end Go.Proofs.YtiafodeabdhcoaaGreatDoor
