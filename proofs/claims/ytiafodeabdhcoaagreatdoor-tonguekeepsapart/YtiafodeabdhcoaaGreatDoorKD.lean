import Derived.Test.YtiafodeabdhcoaaGreatDoorKC
namespace Go.Proofs.YtiafodeabdhcoaaGreatDoor
open Go.RowKit
theorem nmL_eq (l : List Vr) : nmL l = (l.map (·.name)).map fun z => Value.string ⟨z.toArray⟩ := by simp [nmL]
theorem adL_eq (l : List Vr) : adL l = (l.map fun v => ((v.at' : Nat) : Int)).map fun z => Value.int .i64 z := by simp [adL]
theorem kd_nm (l : List Vr) : (nmL l).length = l.length := by simp [nmL]
theorem kd_ad (l : List Vr) : (adL l).length = l.length := by simp [adL]
/-- answers as cells -/
def anL (l : List Nat) : List Value := l.map fun z => Value.int .u32 (z : Nat)
theorem rda_an {w : World} {v : Value} {n : Nat} {l : List Nat} (h : Rda w v n (anL l)) (hn : l.length = n) : AnIn w v l := by
  subst hn
  obtain ⟨a, c, rfl, hc⟩ := h.len
  refine ⟨a, c, rfl, hc, fun i hi => ?_⟩
  obtain ⟨ad, h1, h2⟩ := h.get hi (u := .int .u32 (l[i] : Nat)) (by simp [anL, hi])
  exact ⟨ad, h1, h2⟩
/-- one error for all three -/
theorem err_one (s : Tx) (answers : List Nat) : (compT s).2.2 = (ldT s).2.2 ∧ (datT s).2 = (ldT s).2.2 ∧ (evT s answers 300).2.2 = (ldT s).2.2 := by
  refine ⟨?_, ?_, ?_⟩
  · unfold compT
    split
    · rfl
    · next h => simp at h; exact h.symm
  · unfold datT
    split
    · rfl
    · next h => simp at h; exact h.symm
  · unfold evT
    rw [if_neg (by omega)]
    split
    · rfl
    · next h => simp at h; exact h.symm
theorem dat_len (s : Tx) : (datT s).1.length ≤ 16385 := by
  unfold datT
  split
  · simp
  · exact vars_le s
theorem kd_asm (ps : List (Tx × (Nat × Int))) : ∀ (ls : List Ln) (k : Nat) (ws : List Nat), ws.length ≤ 512 → (asmL ps ls k ws).1.length ≤ 512
  | [], k, ws, h => h
  | l :: r, k, ws, h => by
    rw [asmL]
    by_cases e : fltT ps l k ws.length = 0
    · rw [if_pos e]
      have h1 := flt_room e
      exact kd_asm ps r (k + 1) (ws ++ List.replicate l.words.toNat (wrdT ps l ws.length)) (by simp; omega)
    · rw [if_neg e]
      simp
theorem comp_len (s : Tx) : (compT s).1.length ≤ 512 := by
  unfold compT
  split
  · simp
  · show (asmT _).1.length ≤ 512
    unfold asmT
    split
    · simp
    · exact kd_asm _ _ 0 [] (by simp)
theorem kd_outs (s : Tx) (answers : List Nat) (ha : ∀ x ∈ answers, x ≤ 4294967295) : (evM (evT s answers 300)).outs.length ≤ 1000000 := by
  obtain ⟨A, B, ln, er, h1, h2, _, h4, h5⟩ := ev_two s answers ha 300 300 (Nat.le_refl _) (by decide)
  have h2' : evM (evT s answers 300) = B := h2
  rw [h2']
  by_cases he : er = 0
  · exact (h5 he).ol
  · have h6 : (evT s answers 300).2.2 = er := by rw [show (evT s answers 300).2 = (ln, er) from h4]
    have h7 : (evT s answers 300).1 = none := by
      have e1 := (err_one s answers).2.2
      unfold evT
      rw [if_neg (by omega), if_pos (by rw [← e1, h6]; exact he)]
    rw [← h2', evM, h7]
    show (mc0 [] 0).outs.length ≤ _
    simp [mc0]
/-- the law's rows, up to the appends -/
structure Ks (w : World) (lo : Nat → Nat) (M : Nat) (mc : List Value) (om vw vv vn va vk vb : Value) (outs : List (Nat × Nat)) (xw xv xn xa xk xb : List Value) (no nw nd : Nat) (wr : World) : Prop where
  be : Below w.heap.size w wr
  rm : IR wr (lo 0) (lo 1) 32 2 om no (outs.flatMap outL)
  rM : Blk wr M 26 mc
  rw : IR wr (lo 2) (lo 3) 30 1 vw nw xw
  rv : IR wr (lo 3) (lo 4) 30 1 vv nw xv
  rn : IR wr (lo 4) (lo 5) 9 1 vn nd xn
  ra : IR wr (lo 4) (lo 5) 3 1 va nd xa
  rk : IR wr (lo 5) (lo 6) 9 1 vk nd xk
  rb : IR wr (lo 5) (lo 6) 3 1 vb nd xb
  ch : w.heap.size ≤ lo 0 ∧ lo 0 ≤ lo 1 ∧ lo 1 ≤ M ∧ M < lo 2 ∧ lo 2 ≤ lo 3 ∧ lo 3 ≤ lo 4 ∧ lo 4 ≤ lo 5 ∧ lo 5 ≤ lo 6 ∧ lo 6 ≤ wr.heap.size
section
variable {w : World} {lo : Nat → Nat} {M : Nat} {mc : List Value} {om vw vv vn va vk vb : Value} {outs : List (Nat × Nat)} {xw xv xn xa xk xb : List Value} {no nw nd : Nat} {wr w' : World}
theorem Ks.lo0 (h : Ks w lo M mc om vw vv vn va vk vb outs xw xv xn xa xk xb no nw nd wr) : w.heap.size ≤ wr.heap.size := h.be.size
theorem Ks.up (h : Ks w lo M mc om vw vv vn va vk vb outs xw xv xn xa xk xb no nw nd wr) (hb : Below wr.heap.size wr w') : Ks w lo M mc om vw vv vn va vk vb outs xw xv xn xa xk xb no nw nd w' :=
  ⟨h.be.trans (hb.mono h.be.size), h.rm.up hb, h.rM.below hb h.rM.lt, h.rw.up hb, h.rv.up hb, h.rn.up hb, h.ra.up hb, h.rk.up hb, h.rb.up hb, by have := h.ch; have := hb.size; omega⟩
theorem Ks.setW {g c j : Nat} {u : Value} (h : Ks w lo M mc om (.slice (some ⟨g, 0, none⟩) nw c) vv vn va vk vb outs xw xv xn xa xk xb no nw nd wr) : Ks w lo M mc om (.slice (some ⟨g, 0, none⟩) nw c) vv vn va vk vb outs (xw.set j u) xv xn xa xk xb no nw nd (wr.setCell ⟨g, j, none⟩ u) := by
  have hg := gb_set wr g j u
  have hc := h.ch
  have d := fun (k : Nat) (hk : some g = some k) => show (Value.slice (some ⟨g, 0, none⟩) nw c).ownBlock = some k by cases hk; rfl
  have hgl := (h.rw.own.lt g rfl).1
  have hgh := h.rw.hi g rfl
  refine ⟨h.be.trans (gb_below hg h.be.size (fun k hk => by cases hk; omega)), h.rm.keep hg (fun k hk => h.rw.dj h.rm (.inr (by omega)) k (d k hk)), h.rM.keepG hg (fun e => by cases e; omega), h.rw.set, h.rv.keep hg (fun k hk => h.rw.dj h.rv (.inl (by omega)) k (d k hk)), h.rn.keep hg (fun k hk => h.rw.dj h.rn (.inl (by omega)) k (d k hk)), h.ra.keep hg (fun k hk => h.rw.dj h.ra (.inl (by omega)) k (d k hk)), h.rk.keep hg (fun k hk => h.rw.dj h.rk (.inl (by omega)) k (d k hk)), h.rb.keep hg (fun k hk => h.rw.dj h.rb (.inl (by omega)) k (d k hk)), by have := hg.size; omega⟩
theorem Ks.setN {g c j : Nat} {u : Value} (h : Ks w lo M mc om vw vv (.slice (some ⟨g, 0, none⟩) nd c) va vk vb outs xw xv xn xa xk xb no nw nd wr) : Ks w lo M mc om vw vv (.slice (some ⟨g, 0, none⟩) nd c) va vk vb outs xw xv (xn.set j u) xa xk xb no nw nd (wr.setCell ⟨g, j, none⟩ u) := by
  have hg := gb_set wr g j u
  have hc := h.ch
  have d := fun (k : Nat) (hk : some g = some k) => show (Value.slice (some ⟨g, 0, none⟩) nd c).ownBlock = some k by cases hk; rfl
  have hgl := (h.rn.own.lt g rfl).1
  have hgh := h.rn.hi g rfl
  refine ⟨h.be.trans (gb_below hg h.be.size (fun k hk => by cases hk; omega)), h.rm.keep hg (fun k hk => h.rn.dj h.rm (.inr (by omega)) k (d k hk)), h.rM.keepG hg (fun e => by cases e; omega), h.rw.keep hg (fun k hk => h.rn.dj h.rw (.inr (by omega)) k (d k hk)), h.rv.keep hg (fun k hk => h.rn.dj h.rv (.inr (by omega)) k (d k hk)), h.rn.set, h.ra.keep hg (fun k hk => h.rn.dje h.ra (by decide) k (d k hk)), h.rk.keep hg (fun k hk => h.rn.dj h.rk (.inl (by omega)) k (d k hk)), h.rb.keep hg (fun k hk => h.rn.dj h.rb (.inl (by omega)) k (d k hk)), by have := hg.size; omega⟩
theorem Ks.setA {g c j : Nat} {u : Value} (h : Ks w lo M mc om vw vv vn (.slice (some ⟨g, 0, none⟩) nd c) vk vb outs xw xv xn xa xk xb no nw nd wr) : Ks w lo M mc om vw vv vn (.slice (some ⟨g, 0, none⟩) nd c) vk vb outs xw xv xn (xa.set j u) xk xb no nw nd (wr.setCell ⟨g, j, none⟩ u) := by
  have hg := gb_set wr g j u
  have hc := h.ch
  have d := fun (k : Nat) (hk : some g = some k) => show (Value.slice (some ⟨g, 0, none⟩) nd c).ownBlock = some k by cases hk; rfl
  have hgl := (h.ra.own.lt g rfl).1
  have hgh := h.ra.hi g rfl
  refine ⟨h.be.trans (gb_below hg h.be.size (fun k hk => by cases hk; omega)), h.rm.keep hg (fun k hk => h.ra.dj h.rm (.inr (by omega)) k (d k hk)), h.rM.keepG hg (fun e => by cases e; omega), h.rw.keep hg (fun k hk => h.ra.dj h.rw (.inr (by omega)) k (d k hk)), h.rv.keep hg (fun k hk => h.ra.dj h.rv (.inr (by omega)) k (d k hk)), h.rn.keep hg (fun k hk => h.ra.dje h.rn (by decide) k (d k hk)), h.ra.set, h.rk.keep hg (fun k hk => h.ra.dj h.rk (.inl (by omega)) k (d k hk)), h.rb.keep hg (fun k hk => h.ra.dj h.rb (.inl (by omega)) k (d k hk)), by have := hg.size; omega⟩
theorem Ks.setM {g c j : Nat} (h : Ks w lo M mc (.slice (some ⟨g, 0, none⟩) no c) vw vv vn va vk vb (fillO j outs) xw xv xn xa xk xb no nw nd wr) (hj : j < outs.length) : Ks w lo M mc (.slice (some ⟨g, 0, none⟩) no c) vw vv vn va vk vb (fillO (j + 1) outs) xw xv xn xa xk xb no nw nd (wr.setCell ⟨g, j * 2, none⟩ (.int .i64 ((99 : Nat) : Int))) := by
  have hg := gb_set wr g (j * 2) (.int .i64 ((99 : Nat) : Int))
  have hc := h.ch
  have d := fun (k : Nat) (hk : some g = some k) => show (Value.slice (some ⟨g, 0, none⟩) no c).ownBlock = some k by cases hk; rfl
  have hgl := (h.rm.own.lt g rfl).1
  have hgh := h.rm.hi g rfl
  refine ⟨h.be.trans (gb_below hg h.be.size (fun k hk => by cases hk; omega)), ?_, h.rM.keepG hg (fun e => by cases e; omega), h.rw.keep hg (fun k hk => h.rm.dj h.rw (.inl (by omega)) k (d k hk)), h.rv.keep hg (fun k hk => h.rm.dj h.rv (.inl (by omega)) k (d k hk)), h.rn.keep hg (fun k hk => h.rm.dj h.rn (.inl (by omega)) k (d k hk)), h.ra.keep hg (fun k hk => h.rm.dj h.ra (.inl (by omega)) k (d k hk)), h.rk.keep hg (fun k hk => h.rm.dj h.rk (.inl (by omega)) k (d k hk)), h.rb.keep hg (fun k hk => h.rm.dj h.rb (.inl (by omega)) k (d k hk)), by have := hg.size; omega⟩
  have := h.rm.set (j := j * 2) (u := .int .i64 ((99 : Nat) : Int))
  rw [fillO_step hj] at this
  exact this
end
end Go.Proofs.YtiafodeabdhcoaaGreatDoor
