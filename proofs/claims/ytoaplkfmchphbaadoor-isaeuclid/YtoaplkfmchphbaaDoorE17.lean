import Derived.Deep.Cut
import Derived.Test.YtoaplkfmchphbaaDoorE12
import Derived.Test.YtoaplkfmchphbaaDoorE16
namespace Go.Proofs.YtoaplkfmchphbaaDoor
open Go.RowKit
theorem results_rows2 {P : Program} {fn : Func} {p u : Tmp} {ty tz : TypeId} (h : fn.results = #[.cell p ty, .cell u tz]) (tmps : Array Value) (w : World) (g k : Nat) (t t' : TypeId) (cs ds : Array Value) (d d' : TypeDesc)
    (hp : tmps.getD p undef = .pointer (some ⟨g, 0, none⟩)) (hg : w.heap[g]? = some (.cells cs t (0, 0)))
    (hu : P.underlying ty = some d) (hd : (match d with | .struct _ | .array _ _ => true | _ => false) = true) (hi : (P.info? ty).map (·.size) = some cs.size)
    (hp' : tmps.getD u undef = .pointer (some ⟨k, 0, none⟩)) (hg' : w.heap[k]? = some (.cells ds t' (0, 0)))
    (hu' : P.underlying tz = some d') (hd' : (match d' with | .struct _ | .array _ _ => true | _ => false) = true) (hi' : (P.info? tz).map (·.size) = some ds.size) :
    (results fn tmps).run P w = .ok (.tuple #[.agg cs, .agg ds]) w := by
  have hp1 : tmps[p]?.getD undef = .pointer (some ⟨g, 0, none⟩) := by simpa using hp
  have hp2 : tmps[u]?.getD undef = .pointer (some ⟨k, 0, none⟩) := by simpa using hp'
  simp [results, h, hp1, hp2, asAddr, run_loadVar_row w g t ty cs (0, 0) d hg hu hd hi, run_loadVar_row w k t' tz ds (0, 0) d' hg' hu' hd' hi']
theorem info_eff : (Tryd.prog.info? 34).map (·.size) = some 5 := by kernel_rfl
/-- what a step begins with: three new blocks, then Decode's answer in a fourth -/
structure Bgn (w w4 : World) (R : Nat → Nat) (pc : Nat) : Prop where
  r : Rb w4 w.heap.size R pc
  r1 : Rb w4 (w.heap.size + 1) (fun _ => 0) 0
  e : w4.heap[w.heap.size + 2]? = some (.cells #[.int .i64 0, .int .u32 0, .int .i64 0, .int .u32 0, .int .i64 0] 34 (0, 0))
  b : Below w.heap.size w w4
theorem Bgn.new {w w4 : World} {R : Nat → Nat} {pc : Nat} {o2 : Obj} (h2 : o2 = .cells #[.int .i64 0, .int .u32 0, .int .i64 0, .int .u32 0, .int .i64 0] 34)
    (hb : Below (((w.alloc (.cells (rg R pc).toArray 32)).alloc (.cells #[.int .u32 0, .int .u32 0, .int .u32 0, .int .u32 0, .int .u32 0, .int .u32 0, .int .u32 0, .int .u32 0, .int .u32 0] 32)).alloc o2).heap.size (((w.alloc (.cells (rg R pc).toArray 32)).alloc (.cells #[.int .u32 0, .int .u32 0, .int .u32 0, .int .u32 0, .int .u32 0, .int .u32 0, .int .u32 0, .int .u32 0, .int .u32 0] 32)).alloc o2) w4) : Bgn w w4 R pc := by
  rw [rg_zero] at hb
  have r0 := Rb.new w R pc
  have s1 : (w.alloc (.cells (rg R pc).toArray 32)).heap.size = w.heap.size + 1 := by simp
  have r1 := Rb.new (w.alloc (.cells (rg R pc).toArray 32)) (fun _ => 0) 0
  rw [s1] at r1
  generalize hw1 : w.alloc (.cells (rg R pc).toArray 32) = w1 at *
  have b1 : Below w.heap.size w w1 := by rw [← hw1]; exact bel1 _ _
  clear hw1
  have s2 : (w1.alloc (.cells (rg (fun _ => 0) 0).toArray 32)).heap.size = w.heap.size + 2 := by simp [s1]
  have b2 := bel1 w1 (.cells (rg (fun _ => 0) 0).toArray 32)
  generalize hw2 : w1.alloc (.cells (rg (fun _ => 0) 0).toArray 32) = w2 at *
  clear hw2
  have e0 := heap_alloc_last w2 o2
  rw [s2] at e0
  have b3 := bel1 w2 o2
  generalize hw3 : w2.alloc o2 = w3 at *
  have s3 : w3.heap.size = w.heap.size + 3 := by rw [← hw3]; simp [s2]
  clear hw3
  have r0' := ((r0.below b2).below b3).below hb
  have r1' := (r1.below b3).below hb
  refine ⟨r0', r1', ?_, ((b1.trans (b2.mono (by omega))).trans (b3.mono (by omega))).trans (hb.mono (by omega))⟩
  rw [hb.block _ (by omega), e0, h2]
theorem heap_setCells_other (b k : Nat) (hk : k ≠ b) : ∀ (vs : List Value) (o : Nat) (w : World), (w.setCells b o vs).heap[k]? = w.heap[k]?
  | [], _, _ => rfl
  | v :: r, o, w => by
    rw [World.setCells, heap_setCells_other b k hk r (o + 1) _, heap_setCell_other _ _ _ _ hk]
theorem setCells_rest (b : Nat) : ∀ (vs : List Value) (o : Nat) (w : World), (w.setCells b o vs).os = w.os ∧ (w.setCells b o vs).tape = w.tape ∧ (w.setCells b o vs).output = w.output ∧ (w.setCells b o vs).heap.size = w.heap.size
  | [], _, _ => ⟨rfl, rfl, rfl, rfl⟩
  | v :: r, o, w => by
    obtain ⟨h1, h2, h3, h4⟩ := setCells_rest b r (o + 1) (w.setCell ⟨b, o, none⟩ v)
    rw [World.setCells]
    exact ⟨h1, h2, h3, by rw [h4]; simp [World.setCell]⟩
theorem heap_setCells (b t : Nat) : ∀ (vs : List Value) (o : Nat) (w : World) (cs : Array Value), w.heap[b]? = some (.cells cs t (0, 0)) →
    ∃ cs', (w.setCells b o vs).heap[b]? = some (.cells cs' t (0, 0)) ∧ cs'.size = cs.size ∧ ∀ j, j < cs.size → cs'[j]? = if o ≤ j ∧ j < o + vs.length then vs[j - o]? else cs[j]?
  | [], o, w, cs, h => ⟨cs, h, rfl, fun j _ => by rw [if_neg (by simp)]⟩
  | v :: r, o, w, cs, h => by
    obtain ⟨cs', h1, h2, h3⟩ := heap_setCells b t r (o + 1) (w.setCell ⟨b, o, none⟩ v) (cs.setIfInBounds o v) (heap_setCell_same w b o cs t v h)
    refine ⟨cs', by rw [World.setCells]; exact h1, by simpa using h2, fun j hj => ?_⟩
    rw [h3 j (by simpa using hj)]
    by_cases e : j = o
    · subst e
      rw [if_neg (by omega), if_pos (by simp)]
      simp [hj]
    · by_cases e2 : o + 1 ≤ j ∧ j < o + 1 + r.length
      · rw [if_pos e2, if_pos (by simp; omega)]
        rw [show j - o = (j - (o + 1)) + 1 by omega, List.getElem?_cons_succ]
      · rw [if_neg e2, if_neg (by simp; omega)]
        rw [Array.getElem?_setIfInBounds_ne (by omega)]
/-- a block that is written whole -/
theorem setCells_whole {w : World} {b t : Nat} {cs : Array Value} {vs : List Value} (h : w.heap[b]? = some (.cells cs t (0, 0))) (hl : cs.size = vs.length) : (w.setCells b 0 vs).heap[b]? = some (.cells vs.toArray t (0, 0)) := by
  obtain ⟨cs', h1, h2, h3⟩ := heap_setCells b t vs 0 w cs h
  rw [h1]
  congr 2
  apply Array.ext_getElem?
  intro j
  by_cases hj : j < cs.size
  · rw [h3 j hj, if_pos (by omega)]; simp
  · rw [Array.getElem?_eq_none (by omega), Array.getElem?_eq_none (by simp; omega)]
theorem below_setCells {w wr : World} {N g : Nat} (h : Below N w wr) (hg : N ≤ g) (o : Nat) (vs : List Value) : Below N w (wr.setCells g o vs) := by
  obtain ⟨h1, h2, h3, h4⟩ := setCells_rest g vs o wr
  exact ⟨h1.trans h.os, h2.trans h.tape, h3.trans h.output, by rw [h4]; exact h.size, fun k hk => by rw [heap_setCells_other g k (by omega)]; exact h.block k hk⟩
theorem there_of {w : World} {b t : Nat} {cs : Array Value} (h : w.heap[b]? = some (.cells cs t (0, 0))) : w.there b 0 cs.size := fun j hj => by
  rw [Nat.zero_add]
  exact ⟨by rw [cell_of_row _ _ _ _ _ _ h]; simp [hj], frozen_of_row w b j _ _ h⟩
theorem range_of {w : World} {b t : Nat} {cs : List Value} (h : w.heap[b]? = some (.cells cs.toArray t (0, 0))) : w.rangeAt b 0 cs := fun j v hv => by
  rw [Nat.zero_add, cell_of_row _ _ _ _ _ _ h]; simpa using hv
/-- the two blocks of a step's answer, to be written -/
structure Two (w W : World) (N : Nat) : Prop where
  a : Rb W (N + 1) (fun _ => 0) 0
  e : W.heap[N + 1 + 1]? = some (.cells #[.int .i64 0, .int .u32 0, .int .i64 0, .int .u32 0, .int .i64 0] 34 (0, 0))
  b : Below N w W
  s : N ≤ W.heap.size
theorem Two.below {w W W' : World} {N : Nat} (h : Two w W N) (hb : Below W.heap.size W W') : Two w W' N :=
  ⟨h.a.below hb, by rw [hb.block _ (Array.getElem?_eq_some_iff.1 h.e).1]; exact h.e, h.b.trans (hb.mono h.s), Nat.le_trans h.s hb.size⟩
theorem Two.drew {w W : World} {N : Nat} (h : Two w W N) : Two w W.drew N := ⟨⟨h.a.out⟩, h.e, h.b.drew, h.s⟩
theorem Two.setCell {w W : World} {N : Nat} (h : Two w W N) (o : Nat) (v : Value) : Two w (W.setCell ⟨N, o, none⟩ v) N :=
  ⟨h.a.keep (heap_setCell_other _ _ _ _ (by simp)), by rw [heap_setCell_other _ _ _ _ (by simp; omega)]; exact h.e, h.b.setCell (Nat.le_refl _) _, by simpa [World.setCell] using h.s⟩
theorem Two.cells {w W : World} {N : Nat} (h : Two w W N) : (∀ o, o < 9 → W.cell? ⟨N + 1, o, none⟩ = some (.int .u32 0)) ∧ W.cell? ⟨N + 1 + 1, 0, none⟩ = some (.int .i64 0) ∧ W.cell? ⟨N + 1 + 1, 1, none⟩ = some (.int .u32 0) ∧ W.cell? ⟨N + 1 + 1, 2, none⟩ = some (.int .i64 0) ∧ W.cell? ⟨N + 1 + 1, 3, none⟩ = some (.int .u32 0) ∧ W.cell? ⟨N + 1 + 1, 4, none⟩ = some (.int .i64 0) ∧ (∀ o, W.frozen? ⟨N + 1, o, none⟩ = false) ∧ ∀ o, W.frozen? ⟨N + 1 + 1, o, none⟩ = false := by
  refine ⟨fun o ho => ?_, ?_, ?_, ?_, ?_, ?_, fun o => h.a.frz o, fun o => frozen_of_row W _ o _ _ h.e⟩
  · by_cases h8 : o < 8
    · exact h.a.r h8
    · obtain rfl : o = 8 := by omega
      exact h.a.p
  all_goals rw [cell_of_row _ _ _ _ _ _ h.e]; rfl
/-- what is held while the answer is laid down -/
def Sx (N : Nat) (Y : List Value) (W : World) : Prop := W.rangeAt N 0 Y ∧ W.there (N + 1) 0 9 ∧ W.there (N + 1 + 1) 0 5
theorem Two.sx {w W : World} {N : Nat} {R : Nat → Nat} {pc : Nat} (h : Two w W N) (hr : Rb W N R pc) : Sx N (rg R pc) W := by
  have t1 := there_of h.a.out
  have t2 := there_of h.e
  rw [rg_size] at t1
  exact ⟨range_of hr.out, t1, t2⟩
theorem Sx.set1 {W : World} {N : Nat} {Y : List Value} (h : Sx N Y W) (Z : List Value) : Sx N Y (W.setCells (N + 1) 0 Z) :=
  ⟨World.rangeAt_setCells_apart h.1 _ _ _ (.inl (by omega)), World.there_setCells h.2.1 _ _ _, World.there_setCells h.2.2 _ _ _⟩
theorem Sx.set2 {W : World} {N : Nat} {Y : List Value} (h : Sx N Y W) (Z : List Value) : Sx N Y (W.setCells (N + 1 + 1) 0 Z) :=
  ⟨World.rangeAt_setCells_apart h.1 _ _ _ (.inl (by omega)), World.there_setCells h.2.1 _ _ _, World.there_setCells h.2.2 _ _ _⟩
theorem Sx.t1 {W : World} {N : Nat} {Y : List Value} (h : Sx N Y W) {Z : List Value} (hZ : Z.length = 9) : W.there (N + 1) 0 Z.length := by rw [hZ]; exact h.2.1
theorem Sx.t2 {W : World} {N : Nat} {Y : List Value} (h : Sx N Y W) {Z : List Value} (hZ : Z.length = 5) : W.there (N + 1 + 1) 0 Z.length := by rw [hZ]; exact h.2.2
theorem ones5 (a b c d e : Value) (h : [a, b, c, d, e].all (·.oneCell') = true) : ∀ v ∈ [a, b, c, d, e], v.oneCell' = true := by
  intro v hv; exact List.all_eq_true.1 h v hv
theorem info_rgl (R : Nat → Nat) (pc : Nat) : (Tryd.prog.info? 32).map (·.size) = some (rg R pc).length := by rw [rg_len]; exact info_regs
/-- written in the one order or in the other -/
structure Fin2 (w W : World) (N : Nat) (Y X : List Value) : Prop where
  a : W.heap[N + 1]? = some (.cells Y.toArray 32 (0, 0))
  e : W.heap[N + 1 + 1]? = some (.cells X.toArray 34 (0, 0))
  b : Below N w W
theorem Two.fin {w W : World} {N : Nat} (h : Two w W N) (Y X : List Value) (hY : Y.length = 9) (hX : X.length = 5) : Fin2 w ((W.setCells (N + 1) 0 Y).setCells (N + 1 + 1) 0 X) N Y X ∧ Fin2 w ((W.setCells (N + 1 + 1) 0 X).setCells (N + 1) 0 Y) N Y X := by
  have h1 := h.a.out
  have h2 := h.e
  have l1 := rg_size (fun _ => 0) 0
  refine ⟨⟨?_, ?_, below_setCells (below_setCells h.b (by omega) _ _) (by omega) _ _⟩, ⟨?_, ?_, below_setCells (below_setCells h.b (by omega) _ _) (by omega) _ _⟩⟩
  · rw [heap_setCells_other _ _ (by omega)]; exact setCells_whole h1 (by omega)
  · exact setCells_whole (by rw [heap_setCells_other _ _ (by omega)]; exact h2) (by rw [hX]; rfl)
  · exact setCells_whole (by rw [heap_setCells_other _ _ (by omega)]; exact h1) (by omega)
  · rw [heap_setCells_other _ _ (by omega)]; exact setCells_whole h2 (by rw [hX]; rfl)
section
variable (w : World) (R : Nat → Nat) (pc n : Nat)
set_option maxRecDepth 100000 in
set_option maxHeartbeats 1000000 in
theorem exec_trap (hn : n < 4294967296) (hx : isI (parts n) = false) (hO : Ops w) : Calls Tryd.prog 11 #[.agg (rg R pc).toArray, .int .u32 (n : Nat)] w fun e w' => e = .returned (.tuple #[.agg (rg R pc).toArray, .agg #[.int .i64 4, .int .u32 0, .int .i64 0, .int .u32 0, .int .i64 70]]) ∧ Below w.heap.size w w' := by
  have hi : decI n = ⟨0, 0, 0, 0⟩ := (decI_no rfl hx).1
  have he : decE n = 70 := (decI_no rfl hx).2
  have hbO : ∀ w4, Below w.heap.size w w4 → Ops w4 := fun w4 h => hO.below h
  clear hO hx
  go_enter Tryd.func11, Tryd.ntmps11
  go_wp2_with fail
  refine (dec_any _ n hn ?_).mono ?_
  · exact hbO _ (((bel2 w _ _).trans ((bel1 _ _).mono (by simp; omega))))
  rw [hi, he]
  rintro e w4 ⟨rfl, hb⟩
  have hB := Bgn.new rfl hb
  clear hb hi he hbO
  simp only [I.cells]
  obtain ⟨N, hN⟩ : ∃ N, w.heap.size = N := ⟨_, rfl⟩
  have hT : Two w w4 N := by subst hN; exact ⟨hB.r1, hB.e, hB.b, hB.b.size⟩
  have hr : Rb w4 N R pc := by subst hN; exact hB.r
  rw [hN]
  clear hB
  have b5 := bel1 w4 (.cells #[.int .i64 0, .int .i64 0, .int .i64 0, .int .i64 0] 58)
  have HT := hide (hT.below b5)
  have HR := hide (hr.below b5)
  clear hT hr b5
  go_wp2
  generalize w4.alloc (.cells #[.int .i64 0, .int .i64 0, .int .i64 0, .int .i64 0] 58) = w5 at *
  have HF := hide fun W (h : Two w W N) => h.fin (rg R pc) [.int .i64 4, .int .u32 0, .int .i64 0, .int .u32 0, .int .i64 70] (rg_len _ _) rfl
  have hS5 : Sx N (rg R pc) w5.drew := HT.out.drew.sx ⟨HR.out.out⟩
  refine wp_region_held_drew (S := Sx N (rg R pc)) (by kernel_rfl) hS5 (fun hHeld => ?_)
  refine held_load 0 (o := ⟨some 19, _, _, _, _, _⟩) (by kernel_rfl) (by kernel_rfl) (by kernel_rfl) rfl (by rfl) rfl (rg R pc) rfl (fun W h => h.1) Tryd.underlying32 rfl (by rw [rg_len]; exact info_regs) (fun _ _ _ h => h) hHeld ?_
  simp only [Act.put, List.setIfInBounds_toArray, List.set_cons_zero, List.set_cons_succ]
  refine held_take 1 (o := ⟨some 20, _, _, _, _, _⟩) (.int .i64 70) (by kernel_rfl) (by kernel_rfl) (by kernel_rfl) rfl (by rfl) (fun W hSw => by go_simp) (fun _ _ _ h => h) hHeld ?_
  simp only [Act.put, List.setIfInBounds_toArray, List.set_cons_zero, List.set_cons_succ]
  refine held_call 2 (o := ⟨some 21, _, _, _, _, _⟩) (by kernel_rfl) rfl (by rfl) (fun K hK => ?_)
  go_simp
  go_wp2_with (go_at_call 27; refine (trap_any _ _).mono ?_; rintro e w6 ⟨rfl, hb⟩)
  have HT6 := hide (HT.out.drew.below hb)
  have hS6 : Sx N (rg R pc) w6 := HT6.out.sx (Rb.below (w := w5.drew) ⟨HR.out.out⟩ hb)
  clear hb hHeld
  refine hK _ _ hS6 ?_
  clear hK K
  refine held_store 3 (o := ⟨none, _, _, _, _, _⟩) (cells := (rg R pc)) (by kernel_rfl) rfl (by rfl) rfl rfl rfl rfl (hS6.t1 (rg_len _ _)) (info_rgl _ _) (rg_ones _ _) (hS6.set1 _) ?_
  refine held_store 4 (o := ⟨none, _, _, _, _, _⟩) (cells := [.int .i64 4, .int .u32 0, .int .i64 0, .int .u32 0, .int .i64 70]) (by kernel_rfl) rfl (by rfl) rfl rfl rfl rfl ((hS6.set1 _).t2 rfl) info_eff (ones5 _ _ _ _ _ rfl) ((hS6.set1 _).set2 _) ?_
  refine wpAnyH_done (by kernel_rfl) ?_ _
  have hF := (HF.out _ HT6.out).1
  clear hS6 HF HT HR hS5 HT6
  generalize (w6.setCells (N + 1) 0 (rg R pc)).setCells (N + 1 + 1) 0 [.int .i64 4, .int .u32 0, .int .i64 0, .int .u32 0, .int .i64 70] = w7 at *
  have HF := hide hF
  clear hF
  go_wp2
  refine bodyPost_ret (results_rows2 rfl _ _ (N + 1) (N + 1 + 1) 32 34 _ _ _ _ rfl HF.out.a Tryd.underlying32 rfl (info_rg _ _) rfl HF.out.e Tryd.underlying34 rfl info_eff) rfl ?_
  subst hN
  exact ⟨rfl, HF.out.b⟩
end
end Go.Proofs.YtoaplkfmchphbaaDoor

namespace Go.Proofs.YtoaplkfmchphbaaDoor
open Go.RowKit
/-- imm as a word -/
def im (z : Int) : Nat := (z % 4294967296).toNat
theorem im_lt (z : Int) : im z < 4294967296 := by unfold im; omega
theorem im_cast (z : Int) : ((im z : Nat) : Int) = z % 4294967296 := by unfold im; omega
def e5 (k a r v c : Int) : List Value := [.int .i64 k, .int .u32 a, .int .i64 r, .int .u32 v, .int .i64 c]
theorem e5_len (k a r v c : Int) : (e5 k a r v c).length = 5 := rfl
theorem e5_ones (k a r v c : Int) : ∀ u ∈ e5 k a r v c, u.oneCell' = true := ones5 _ _ _ _ _ rfl
theorem info_e5 (k a r v c : Int) : (Tryd.prog.info? 34).map (·.size) = some (e5 k a r v c).length := info_eff
theorem info_e5a (k a r v c : Int) : (Tryd.prog.info? 34).map (·.size) = some (e5 k a r v c).toArray.size := info_eff
theorem Two.same {w W w' : World} {N : Nat} (h : Two w W N) (h1 : w'.heap = W.heap) (h2 : w'.os = W.os) (h3 : w'.tape = W.tape) (h4 : w'.output = W.output) : Two w w' N :=
  ⟨⟨by rw [h1]; exact h.a.out⟩, by rw [h1]; exact h.e, ⟨h2.trans h.b.os, h3.trans h.b.tape, h4.trans h.b.output, by rw [h1]; exact h.b.size, fun k hk => by rw [h1]; exact h.b.block k hk⟩, by rw [h1]; exact h.s⟩
/-- held beside: the instruction's a -/
def Sy (N M na : Nat) (Y : List Value) (W : World) : Prop := Sx N Y W ∧ W.cell? ⟨M, 1, none⟩ = some (.int .i64 (na : Int))
theorem Sy.keep {W : World} {N M na : Nat} {Y : List Value} (h : Sy N M na Y W) (hM : M ≠ N + 1 ∧ M ≠ N + 1 + 1) (Z : List Value) : Sy N M na Y (W.setCells (N + 1) 0 Z) ∧ Sy N M na Y (W.setCells (N + 1 + 1) 0 Z) :=
  ⟨⟨h.1.set1 _, by rw [World.cell?_setCells_out (N + 1) Z 0 W ⟨M, 1, none⟩ (fun e _ => absurd e hM.1)]; exact h.2⟩, ⟨h.1.set2 _, by rw [World.cell?_setCells_out (N + 1 + 1) Z 0 W ⟨M, 1, none⟩ (fun e _ => absurd e hM.2)]; exact h.2⟩⟩
section
variable (w : World) (R : Nat → Nat) (pc n no na nb : Nat) (z : Int)
set_option maxRecDepth 100000 in
set_option maxHeartbeats 2000000 in
theorem exec_ld (hn : n < 4294967296) (hp : parts n = ⟨(no : Int), na, nb, z⟩) (hx : isI ⟨(no : Int), na, nb, z⟩ = true) (hO : Ops w) (h19 : no = 19) : Calls Tryd.prog 11 #[.agg (rg R pc).toArray, .int .u32 (n : Nat)] w fun e w' => e = .returned (.tuple #[.agg (rg R pc).toArray, .agg (e5 1 (((R nb : Nat) + z) % 4294967296) na 0 0).toArray]) ∧ Below w.heap.size w w' := by
  have H19 := hide h19
  clear h19
  have hi : decI n = ⟨(no : Int), na, nb, z⟩ := (decI_yes hp hx).1
  have he : decE n = 0 := (decI_yes hp hx).2
  have hbO : ∀ w4, Below w.heap.size w w4 → Ops w4 := fun w4 h => hO.below h
  have hI := isn.1 hx
  have ha : (na : Int) < 8 := (fitsB_range hI.a).2
  have hb8 : (nb : Int) < 8 := (fitsB_range hI.b).2
  have hz1 := hI.imm.1
  have hz2 := hI.imm.2
  have HI := hide hI
  clear hO hx hI hp
  have hz0 : (0 : Int) ≤ (na : Int) := by omega
  have hz00 : (0 : Int) ≤ (nb : Int) := by omega
  have hna : na < 8 := by omega
  have hnb : nb < 8 := by omega
  simp only at hz1 hz2
  go_enter Tryd.func11, Tryd.ntmps11
  go_wp2_with fail
  refine (dec_any _ n hn ?_).mono ?_
  · exact hbO _ (((bel2 w _ _).trans ((bel1 _ _).mono (by simp; omega))))
  rw [hi, he]
  rintro e w4 ⟨rfl, hb⟩
  have hB := Bgn.new rfl hb
  clear hb hi he hbO
  simp only [I.cells]
  obtain ⟨N, hN⟩ : ∃ N, w.heap.size = N := ⟨_, rfl⟩
  have hT : Two w w4 N := by subst hN; exact ⟨hB.r1, hB.e, hB.b, hB.b.size⟩
  have hr : Rb w4 N R pc := by subst hN; exact hB.r
  rw [hN]
  clear hB
  have b5 := bel1 w4 (.cells #[.int .i64 (no : Int), .int .i64 (na : Int), .int .i64 (nb : Int), .int .i64 z] 58)
  have hq := heap_alloc_last w4 (.cells #[.int .i64 (no : Int), .int .i64 (na : Int), .int .i64 (nb : Int), .int .i64 z] 58)
  have HT := hide (hT.below b5)
  have HR := hide (hr.below b5)
  obtain ⟨M, hM⟩ : ∃ M, w4.heap.size = M := ⟨_, rfl⟩
  have hNM : N < M := by rw [← hM]; exact hr.lt
  have hMN : M ≠ N + 1 ∧ M ≠ N + 1 + 1 := by
    have h1 := hT.a.lt
    have h2 := (Array.getElem?_eq_some_iff.1 hT.e).1
    omega
  clear hT hr b5
  go_wp2
  generalize w4.alloc (.cells #[.int .i64 (no : Int), .int .i64 (na : Int), .int .i64 (nb : Int), .int .i64 z] 58) = w5 at *
  rw [hM] at hq
  have i0 : w5.cell? ⟨M, 0, none⟩ = some (.int .i64 (no : Int)) := by rw [cell_of_row _ _ _ _ _ _ hq]; rfl
  have i1 : w5.cell? ⟨M, 1, none⟩ = some (.int .i64 (na : Int)) := by rw [cell_of_row _ _ _ _ _ _ hq]; rfl
  have i2 : w5.cell? ⟨M, 2, none⟩ = some (.int .i64 (nb : Int)) := by rw [cell_of_row _ _ _ _ _ _ hq]; rfl
  have i3 : w5.cell? ⟨M, 3, none⟩ = some (.int .i64 z) := by rw [cell_of_row _ _ _ _ _ _ hq]; rfl
  have ra := HR.out.r hna
  have rb := HR.out.r hnb
  have HQ := hide hq
  clear hq hM
  go_quiet (fail)
  have HW : Hid ((((R nb : Nat) : Int) + z) % 4294967296 = IntKind.u32.wrap (((R nb : Nat) : Int) + z % 4294967296)) := by apply hide; rw [IntKind.wrap_u32]; omega
  have h19i : (no : Int) = 19 := by have := H19.out; omega
  go_upto_region 7 with fail
  have HT6 := hide (HT.out.same (w' := (w5.drewN nq).drew) rfl rfl rfl rfl)
  have HF := hide fun W (h : Two w W N) => h.fin (rg R pc) (e5 1 (((R nb : Nat) + z) % 4294967296) na 0 0) (rg_len _ _) (e5_len _ _ _ _ _)
  have hS6 : Sy N M na (rg R pc) (w5.drewN nq).drew := ⟨HT6.out.sx ⟨HR.out.out⟩, by simpa using i1⟩
  refine wp_region_held_drew (S := Sy N M na (rg R pc)) (by kernel_rfl) hS6 (fun hHeld => ?_)
  refine held_load 0 (o := ⟨some 39, _, _, _, _, _⟩) (by kernel_rfl) (by kernel_rfl) (by kernel_rfl) rfl (by rfl) rfl (rg R pc) rfl (fun W h => h.1.1) Tryd.underlying32 rfl (by rw [rg_len]; exact info_regs) (fun _ _ _ h => h) hHeld ?_
  simp only [Act.put, List.setIfInBounds_toArray, List.set_cons_zero, List.set_cons_succ]
  refine held_take 1 (o := ⟨some 40, _, _, _, _, _⟩) (.int .u32 (R nb : Nat)) (by kernel_rfl) (by kernel_rfl) (by kernel_rfl) rfl (by rfl) (fun W hSw => by first | (go_simp; done) | (go_simp; rfl) | rfl) (fun _ _ _ h => h) hHeld ?_
  simp only [Act.put, List.setIfInBounds_toArray, List.set_cons_zero, List.set_cons_succ]
  refine held_take 2 (o := ⟨some 41, _, _, _, _, _⟩) (.int .u32 (z % 4294967296)) (by kernel_rfl) (by kernel_rfl) (by kernel_rfl) rfl (by rfl) (fun W hSw => by first | (go_simp; done) | (go_simp; rfl) | rfl) (fun _ _ _ h => h) hHeld ?_
  simp only [Act.put, List.setIfInBounds_toArray, List.set_cons_zero, List.set_cons_succ]
  refine held_take 3 (o := ⟨some 42, _, _, _, _, _⟩) (.int .u32 (((R nb : Nat) + z) % 4294967296)) (by kernel_rfl) (by kernel_rfl) (by kernel_rfl) rfl (by rfl) (fun W hSw => by rw [HW.out]; rfl) (fun _ _ _ h => h) hHeld ?_
  simp only [Act.put, List.setIfInBounds_toArray, List.set_cons_zero, List.set_cons_succ]
  refine held_take 4 (o := ⟨some 43, _, _, _, _, _⟩) (.pointer (some ⟨M, 1, none⟩)) (by kernel_rfl) (by kernel_rfl) (by kernel_rfl) rfl (by rfl) (fun W hSw => by first | (go_simp; done) | (go_simp; rfl) | rfl) (fun _ _ _ h => h) hHeld ?_
  simp only [Act.put, List.setIfInBounds_toArray, List.set_cons_zero, List.set_cons_succ]
  refine held_take 5 (o := ⟨some 44, _, _, _, _, _⟩) (.int .i64 (na : Int)) (by kernel_rfl) (by kernel_rfl) (by kernel_rfl) rfl (by rfl) (fun W hSw => by have hc := hSw.2; go_simp; try with_reducible rfl) (fun _ _ _ h => h) hHeld ?_
  simp only [Act.put, List.setIfInBounds_toArray, List.set_cons_zero, List.set_cons_succ]
  refine held_take 6 (o := ⟨some 45, _, _, _, _, _⟩) (.agg (e5 1 (((R nb : Nat) + z) % 4294967296) na 0 0).toArray) (by kernel_rfl) (by kernel_rfl) (by kernel_rfl) rfl (by rfl) (fun W hSw => by first | (go_simp; done) | (go_simp; rfl) | rfl) (fun _ _ _ h => h) hHeld ?_
  simp only [Act.put, List.setIfInBounds_toArray, List.set_cons_zero, List.set_cons_succ]
  refine held_store 7 (o := ⟨none, _, _, _, _, _⟩) (cells := (rg R pc)) (by kernel_rfl) rfl (by rfl) rfl rfl rfl rfl (hHeld.1.t1 (rg_len _ _)) (info_rgl _ _) (rg_ones _ _) (hHeld.keep hMN _).1 ?_
  refine held_store 8 (o := ⟨none, _, _, _, _, _⟩) (cells := (e5 1 (((R nb : Nat) + z) % 4294967296) na 0 0)) (by kernel_rfl) rfl (by rfl) rfl rfl rfl rfl ((hHeld.keep hMN _).1.1.t2 (e5_len _ _ _ _ _)) (info_e5 _ _ _ _ _) (e5_ones _ _ _ _ _) ((hHeld.keep hMN _).1.keep hMN _).2 ?_
  refine wpAnyH_done (by kernel_rfl) ?_ _
  clear hHeld hS6
  have hF := (HF.out _ HT6.out).1
  clear HF HT HR HT6
  generalize ((w5.drewN nq).drew.setCells (N + 1) 0 (rg R pc)).setCells (N + 1 + 1) 0 (e5 1 (((R nb : Nat) + z) % 4294967296) na 0 0) = w7 at *
  have HF := hide hF
  clear hF
  go_wp2
  refine bodyPost_ret (results_rows2 rfl _ _ (N + 1) (N + 1 + 1) 32 34 _ _ _ _ rfl HF.out.a Tryd.underlying32 rfl (info_rg _ _) rfl HF.out.e Tryd.underlying34 rfl (info_e5a _ _ _ _ _)) rfl ?_
  subst hN
  exact ⟨rfl, HF.out.b⟩
end
end Go.Proofs.YtoaplkfmchphbaaDoor

namespace Go.Proofs.YtoaplkfmchphbaaDoor
open Go.RowKit
theorem effcells {w W : World} {N : Nat} (h : Two w W N) (Y : List Value) : (W.setRow (N + 1) Y.toArray).cell? ⟨N + 1 + 1, 0, none⟩ = some (.int .i64 0) ∧ (W.setRow (N + 1) Y.toArray).cell? ⟨N + 1 + 1, 1, none⟩ = some (.int .u32 0) ∧ (W.setRow (N + 1) Y.toArray).cell? ⟨N + 1 + 1, 2, none⟩ = some (.int .i64 0) ∧ (W.setRow (N + 1) Y.toArray).cell? ⟨N + 1 + 1, 3, none⟩ = some (.int .u32 0) ∧ (W.setRow (N + 1) Y.toArray).cell? ⟨N + 1 + 1, 4, none⟩ = some (.int .i64 0) ∧ ∀ o, (W.setRow (N + 1) Y.toArray).frozen? ⟨N + 1 + 1, o, none⟩ = false := by
  have he : (W.setRow (N + 1) Y.toArray).heap[N + 1 + 1]? = some (.cells #[.int .i64 0, .int .u32 0, .int .i64 0, .int .u32 0, .int .i64 0] 34 (0, 0)) := by rw [setRow_other _ _ _ _ (by omega)]; exact h.e
  refine ⟨?_, ?_, ?_, ?_, ?_, fun o => frozen_of_row _ _ o _ _ he⟩
  all_goals rw [cell_of_row _ _ _ _ _ _ he]; rfl
/-- the answer laid down, row by row -/
theorem Two.rows {w W : World} {N : Nat} (h : Two w W N) (Y X : List Value) (hX : X.length = 5) : Fin2 w ((W.setRow (N + 1) Y.toArray).setCells (N + 1 + 1) 0 X) N Y X := by
  refine ⟨?_, ?_, ?_⟩
  · rw [heap_setCells_other _ _ (by omega)]; exact setRow_heap _ _ _ _ _ _ h.a.out
  · exact setCells_whole (by rw [setRow_other _ _ _ _ (by omega)]; exact h.e) (by rw [hX]; rfl)
  · have b1 : Below N w (W.setRow (N + 1) Y.toArray) := ⟨h.b.os, h.b.tape, h.b.output, by simp [World.setRow]; exact h.b.size, fun k hk => by rw [setRow_other W _ k _ (by omega)]; exact h.b.block k hk⟩
    exact below_setCells b1 (by omega) _ _
section
variable (w : World) (R : Nat → Nat) (pc n no na nb : Nat) (z : Int)
set_option maxRecDepth 100000 in
set_option maxHeartbeats 2000000 in
theorem exec_st (hn : n < 4294967296) (hp : parts n = ⟨(no : Int), na, nb, z⟩) (hx : isI ⟨(no : Int), na, nb, z⟩ = true) (hO : Ops w) (h20 : no = 20) : Calls Tryd.prog 11 #[.agg (rg R pc).toArray, .int .u32 (n : Nat)] w fun e w' => e = .returned (.tuple #[.agg (rg R pc).toArray, .agg (e5 2 (((R nb : Nat) + z) % 4294967296) 0 (R na : Nat) 0).toArray]) ∧ Below w.heap.size w w' := by
  have H20 := hide h20
  clear h20
  have hi : decI n = ⟨(no : Int), na, nb, z⟩ := (decI_yes hp hx).1
  have he : decE n = 0 := (decI_yes hp hx).2
  have hbO : ∀ w4, Below w.heap.size w w4 → Ops w4 := fun w4 h => hO.below h
  have hI := isn.1 hx
  have ha : (na : Int) < 8 := (fitsB_range hI.a).2
  have hb8 : (nb : Int) < 8 := (fitsB_range hI.b).2
  have hz1 := hI.imm.1
  have hz2 := hI.imm.2
  have HI := hide hI
  clear hO hx hI hp
  have hz0 : (0 : Int) ≤ (na : Int) := by omega
  have hz00 : (0 : Int) ≤ (nb : Int) := by omega
  have hna : na < 8 := by omega
  have hnb : nb < 8 := by omega
  simp only at hz1 hz2
  go_enter Tryd.func11, Tryd.ntmps11
  go_wp2_with fail
  refine (dec_any _ n hn ?_).mono ?_
  · exact hbO _ (((bel2 w _ _).trans ((bel1 _ _).mono (by simp; omega))))
  rw [hi, he]
  rintro e w4 ⟨rfl, hb⟩
  have hB := Bgn.new rfl hb
  clear hb hi he hbO
  simp only [I.cells]
  obtain ⟨N, hN⟩ : ∃ N, w.heap.size = N := ⟨_, rfl⟩
  have hT : Two w w4 N := by subst hN; exact ⟨hB.r1, hB.e, hB.b, hB.b.size⟩
  have hr : Rb w4 N R pc := by subst hN; exact hB.r
  rw [hN]
  clear hB
  have b5 := bel1 w4 (.cells #[.int .i64 (no : Int), .int .i64 (na : Int), .int .i64 (nb : Int), .int .i64 z] 58)
  have hq := heap_alloc_last w4 (.cells #[.int .i64 (no : Int), .int .i64 (na : Int), .int .i64 (nb : Int), .int .i64 z] 58)
  have HT := hide (hT.below b5)
  have HR := hide (hr.below b5)
  obtain ⟨M, hM⟩ : ∃ M, w4.heap.size = M := ⟨_, rfl⟩
  have hNM : N < M := by rw [← hM]; exact hr.lt
  have hMN : M ≠ N + 1 ∧ M ≠ N + 1 + 1 := by
    have h1 := hT.a.lt
    have h2 := (Array.getElem?_eq_some_iff.1 hT.e).1
    omega
  clear hT hr b5
  go_wp2
  generalize w4.alloc (.cells #[.int .i64 (no : Int), .int .i64 (na : Int), .int .i64 (nb : Int), .int .i64 z] 58) = w5 at *
  rw [hM] at hq
  have i0 : w5.cell? ⟨M, 0, none⟩ = some (.int .i64 (no : Int)) := by rw [cell_of_row _ _ _ _ _ _ hq]; rfl
  have i1 : w5.cell? ⟨M, 1, none⟩ = some (.int .i64 (na : Int)) := by rw [cell_of_row _ _ _ _ _ _ hq]; rfl
  have i2 : w5.cell? ⟨M, 2, none⟩ = some (.int .i64 (nb : Int)) := by rw [cell_of_row _ _ _ _ _ _ hq]; rfl
  have i3 : w5.cell? ⟨M, 3, none⟩ = some (.int .i64 z) := by rw [cell_of_row _ _ _ _ _ _ hq]; rfl
  have ra := HR.out.r hna
  have rb := HR.out.r hnb
  have HQ := hide hq
  clear hq hM
  go_quiet (fail)
  have HT6 := hide (HT.out.same (w' := w5.drewN nq) rfl rfl rfl rfl)
  have HR6 : Hid (Rb (w5.drewN nq) N R pc) := hide ⟨HR.out.out⟩
  have i0' : (w5.drewN nq).cell? ⟨M, 0, none⟩ = some (.int .i64 (no : Int)) := by simpa using i0
  have i1' : (w5.drewN nq).cell? ⟨M, 1, none⟩ = some (.int .i64 (na : Int)) := by simpa using i1
  have p8 := HR6.out.p
  have z8 := HR6.out.frz
  clear HT HR i0 i1 i2 i3 ra rb HQ
  generalize w5.drewN nq = w6 at *
  have h20 : (no : Int) = 20 := by have := H20.out; omega
  obtain ⟨f0, f1, f2, f3, f4, f5⟩ := effcells HT6.out (rg R pc)
  have HF := hide (HT6.out.rows (rg R pc) ([.int .i64 2, .int .u32 (((R nb : Nat) + z) % 4294967296), .int .i64 0, .int .u32 (R na : Nat), .int .i64 0] : List Value) rfl)
  go_wp2_with (first
    | refine wpList_load_row rfl 32 _ rfl N rfl 32 (rg R pc).toArray (0, 0) _ HR6.out.out Tryd.underlying32 rfl (info_rg _ _) ?_
    | refine wpList_store_row rfl 32 _ _ rfl (N + 1) (rg R pc).toArray rfl rfl 32 _ HT6.out.a.out (info_rg _ _) (by rw [rg_size, rg_size]) (rg_one _ _) ?_)
  refine bodyPost_ret (results_rows2 rfl _ _ (N + 1) (N + 1 + 1) 32 34 _ _ _ _ rfl HF.out.a Tryd.underlying32 rfl (info_rg _ _) rfl HF.out.e Tryd.underlying34 rfl info_eff) rfl ?_
  subst hN
  exact ⟨rfl, HF.out.b⟩
end
end Go.Proofs.YtoaplkfmchphbaaDoor
