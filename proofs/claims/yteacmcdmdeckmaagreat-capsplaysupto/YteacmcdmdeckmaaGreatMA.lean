import Derived.Test.YteacmcdmdeckmaaGreatCB
import Derived.Deep.RegionHeld
import Derived.BigQuiet
import Derived.Deep.Cut
import Derived.Deep.DeepCutAuto
import Derived.WalkSmall
import Derived.Test.YteacmcdmdeckmaaGreatX9
import Derived.Test.YteacmcdmdeckmaaGreatV1
namespace Go.Proofs.YteacmcdmdeckmaaGreat
open Go.RowKit

abbrev Asn := World → (Nat → Prop) → Prop
structure Good (A : Asn) : Prop where
  lt : ∀ {W : World} {H : Nat → Prop}, A W H → ∀ b, H b → b < W.heap.size
  keep : ∀ {W W' : World} {H : Nat → Prop}, A W H → W.heap.size ≤ W'.heap.size → (∀ b, H b → W'.heap[b]? = W.heap[b]?) → A W' H
/-- the one and, apart from it, the other -/
def star (A B : Asn) : Asn := fun W H => ∃ H1 H2 : Nat → Prop, A W H1 ∧ B W H2 ∧ (∀ b, H b ↔ H1 b ∨ H2 b) ∧ ∀ b, H1 b → ¬ H2 b
def emp : Asn := fun _ H => ∀ b, ¬ H b
theorem good_emp : Good emp := ⟨fun h b hb => absurd hb (h b), fun h _ _ => h⟩
theorem Good.star {A B : Asn} (hA : Good A) (hB : Good B) : Good (star A B) := by
  refine ⟨?_, ?_⟩
  · rintro W H ⟨H1, H2, h1, h2, h3, h4⟩ b hb
    rcases (h3 b).1 hb with h | h
    · exact hA.lt h1 b h
    · exact hB.lt h2 b h
  · rintro W W' H ⟨H1, H2, h1, h2, h3, h4⟩ hs hk
    exact ⟨H1, H2, hA.keep h1 hs (fun b hb => hk b ((h3 b).2 (.inl hb))), hB.keep h2 hs (fun b hb => hk b ((h3 b).2 (.inr hb))), h3, h4⟩
theorem star_swap {A B C : Asn} {W : World} {H : Nat → Prop} (h : star A (star B C) W H) : star B (star A C) W H := by
  obtain ⟨H1, H23, h1, ⟨H2, H3, h2, h3, e23, d23⟩, e, d⟩ := h
  refine ⟨H2, fun b => H1 b ∨ H3 b, h2, ⟨H1, H3, h1, h3, fun _ => Iff.rfl, fun b hb hb3 => d b hb ((e23 b).2 (.inr hb3))⟩, fun b => ?_, fun b hb => ?_⟩
  · rw [e b, e23 b]
    constructor
    · rintro (h | h | h)
      · exact .inr (.inl h)
      · exact .inl h
      · exact .inr (.inr h)
    · rintro (h | h | h)
      · exact .inr (.inl h)
      · exact .inl h
      · exact .inr (.inr h)
  · rintro (h | h)
    · exact d b h ((e23 b).2 (.inl hb))
    · exact d23 b hb h
theorem star_mono {A B C : Asn} (h : ∀ W H, B W H → C W H) {W : World} {H : Nat → Prop} (hh : star A B W H) : star A C W H := by
  obtain ⟨H1, H2, h1, h2, h3, h4⟩ := hh
  exact ⟨H1, H2, h1, h _ _ h2, h3, h4⟩
/-- all that the law has in its hands: the first n blocks are as they were -/
def Sys (w wr : World) (A : Asn) : Prop := ∃ H : Nat → Prop, A wr H ∧ (∀ b, H b → w.heap.size ≤ b) ∧ Below w.heap.size w wr
section
variable {w wr w' : World} {A A' R : Asn}
theorem Sys.mono (h : Sys w wr A) (hm : ∀ W H, A W H → A' W H) : Sys w wr A' := by
  obtain ⟨H, h1, h2, h3⟩ := h; exact ⟨H, hm _ _ h1, h2, h3⟩
theorem Sys.bel (h : Sys w wr A) : Below w.heap.size w wr := by obtain ⟨H, h1, h2, h3⟩ := h; exact h3
theorem Sys.below (h : Sys w wr A) (hA : Good A) (hb : Below wr.heap.size wr w') : Sys w w' A := by
  obtain ⟨H, h1, h2, h3⟩ := h
  exact ⟨H, hA.keep h1 hb.size (fun b hb' => hb.block b (hA.lt h1 b hb')), h2, h3.trans (hb.mono h3.size)⟩
theorem Sys.alloc (h : Sys w wr A) (hA : Good A) (o : Obj) : Sys w (wr.alloc o) A := h.below hA ((Below.refl _ _).alloc (Nat.le_refl _) o)
/-- the first part's call: what it is handed, what it leaves -/
theorem Sys.call {X : Asn} (h : Sys w wr (star X R)) (hR : Good R) :
    ∃ F : Nat → Prop, X wr F ∧ (∀ b, F b → w.heap.size ≤ b) ∧ ∀ (w' : World) (F' : Nat → Prop) (X' : Asn), X' w' F' → Ext F wr F' w' → Sys w w' (star X' R) := by
  obtain ⟨H, ⟨H1, H2, h1, h2, h3, h4⟩, hl, hb⟩ := h
  refine ⟨H1, h1, fun b hb1 => hl b ((h3 b).2 (.inl hb1)), fun w' F' X' hT hE => ?_⟩
  have hn : ∀ b, H2 b → b < wr.heap.size ∧ ¬ H1 b := fun b hb2 => ⟨hR.lt h2 b hb2, fun hb1 => h4 b hb1 hb2⟩
  refine ⟨fun b => F' b ∨ H2 b, ⟨F', H2, hT, hR.keep h2 hE.mod.size (fun b hb2 => hE.mod.block b (hn b hb2).1 (hn b hb2).2), fun _ => Iff.rfl, ?_⟩, ?_, ?_⟩
  · intro b hb hb2
    rcases hE.new b hb with h5 | h5
    · exact (hn b hb2).2 h5
    · have := (hn b hb2).1; omega
  · rintro b (hb' | hb')
    · rcases hE.new b hb' with h5 | h5
      · exact hl b ((h3 b).2 (.inl h5))
      · have := hb.size; omega
    · exact hl b ((h3 b).2 (.inr hb'))
  · exact hb.trans (hE.mod.below (fun b hb' => hl b ((h3 b).2 (.inl hb'))) hb.size)
theorem Sys.new (h : Sys w wr R) (hR : Good R) {Fc : Nat → Prop} {X : Asn} (hT : X w' Fc) (hl : ∀ b, Fc b → wr.heap.size ≤ b) (hb : Below wr.heap.size wr w') : Sys w w' (star X R) := by
  obtain ⟨H, h1, h2, h3⟩ := h
  have hlt := hR.lt h1
  exact ⟨fun b => Fc b ∨ H b, ⟨Fc, H, hT, hR.keep h1 hb.size (fun b hb' => hb.block b (hlt b hb')), fun _ => Iff.rfl, fun b h4 h5 => by have := hl b h4; have := hlt b h5; omega⟩,
    fun b h4 => by rcases h4 with h4 | h4; have := hl b h4; have := h3.size; omega; exact h2 b h4, h3.trans (hb.mono h3.size)⟩
end
theorem star_comm {A B : Asn} {W : World} {H : Nat → Prop} (h : star A B W H) : star B A W H := by
  obtain ⟨H1, H2, h1, h2, h3, h4⟩ := h
  exact ⟨H2, H1, h2, h1, fun b => by rw [h3 b]; exact Or.comm, fun b hb hb1 => h4 b hb1 hb⟩
theorem Sys.drop {w wr : World} {X R : Asn} (h : Sys w wr (star X R)) : Sys w wr R := by
  obtain ⟨H, ⟨H1, H2, h1, h2, h3, h4⟩, hl, hb⟩ := h
  exact ⟨H2, h2, fun b hb' => hl b ((h3 b).2 (.inr hb')), hb⟩
section
variable {w wr : World} {X R : Asn}
theorem star_assoc {A B C : Asn} {W : World} {H : Nat → Prop} (h : star (star A B) C W H) : star A (star B C) W H := by
  obtain ⟨H1, H2, ⟨H3, H4, a1, a2, a3, a4⟩, c1, c2, c3⟩ := h
  refine ⟨H3, fun b => H4 b ∨ H2 b, a1, ⟨H4, H2, a2, c1, fun b => Iff.rfl, fun b hb => c3 b ((a3 b).2 (.inr hb))⟩, fun b => ?_, fun b hb hc => ?_⟩
  · rw [c2, a3]; exact or_assoc
  · rcases hc with hc | hc
    · exact a4 b hb hc
    · exact c3 b ((a3 b).2 (.inl hb)) hc
theorem star_assoc2 {A B C : Asn} {W : World} {H : Nat → Prop} (h : star A (star B C) W H) : star (star A B) C W H := by
  obtain ⟨H1, H2, a1, ⟨H3, H4, b1, b2, b3, b4⟩, c2, c3⟩ := h
  refine ⟨fun b => H1 b ∨ H3 b, H4, ⟨H1, H3, a1, b1, fun b => Iff.rfl, fun b hb hc => c3 b hb ((b3 b).2 (.inl hc))⟩, b2, fun b => ?_, fun b hb hc => ?_⟩
  · rw [c2, b3]; exact or_assoc.symm
  · rcases hb with hb | hb
    · exact c3 b hb ((b3 b).2 (.inr hc))
    · exact b4 b hb hc
theorem Sys.head (h : Sys w wr (star X R)) : ∃ F, X wr F := by
  obtain ⟨H, ⟨H1, H2, a1, _⟩, _⟩ := h; exact ⟨H1, a1⟩
theorem Sys.swap {Y : Asn} (h : Sys w wr (star X (star Y R))) : Sys w wr (star Y (star X R)) := h.mono (fun _ _ => star_swap)
theorem Sys.swap2 {Y Z : Asn} (h : Sys w wr (star X (star Y (star Z R)))) : Sys w wr (star X (star Z (star Y R))) := h.mono (fun _ _ => star_mono (fun _ _ => star_swap))
/-- what lies beside what is called -/
theorem Sys.beside {Y : Asn} (h : Sys w wr (star X (star Y R))) (hY : Good Y) (hR : Good R) :
    ∃ F HY : Nat → Prop, X wr F ∧ (∀ b, F b → w.heap.size ≤ b) ∧ Y wr HY ∧ (∀ b, HY b → ¬ F b) ∧ ∀ (w' : World) (F' : Nat → Prop) (X' : Asn), X' w' F' → Ext F wr F' w' → Sys w w' (star X' (star Y R)) := by
  obtain ⟨H, ⟨H1, H2, a1, ⟨H3, H4, b1, b2, b3, b4⟩, a3, a4⟩, h2, h3⟩ := h
  have hgood : Good (star Y R) := hY.star hR
  refine ⟨H1, H3, a1, fun b hb => h2 b ((a3 b).2 (.inl hb)), b1, fun b hb hf => a4 b hf ((b3 b).2 (.inl hb)), fun w' F' X' hX hE => ?_⟩
  refine ⟨fun b => F' b ∨ H2 b, ⟨F', H2, hX, ?_, fun b => Iff.rfl, fun b hb hc => ?_⟩, fun b hb => ?_, ?_⟩
  · exact hgood.keep ⟨H3, H4, b1, b2, b3, b4⟩ hE.mod.size (fun b hb => hE.mod.block b (hgood.lt ⟨H3, H4, b1, b2, b3, b4⟩ b hb) (fun hf => a4 b hf hb))
  · rcases hE.new b hb with h | h
    · exact a4 b h hc
    · have := hgood.lt ⟨H3, H4, b1, b2, b3, b4⟩ b hc; omega
  · rcases hb with hb | hb
    · rcases hE.new b hb with h | h
      · exact h2 b ((a3 b).2 (.inl h))
      · have := h3.size; omega
    · exact h2 b ((a3 b).2 (.inr hb))
  · refine h3.trans ?_
    refine ⟨hE.mod.os, hE.mod.tape, hE.mod.output, hE.mod.size, fun b hb => hE.mod.block b (Nat.lt_of_lt_of_le hb h3.size) (fun hf => ?_)⟩
    have := h2 b ((a3 b).2 (.inl hf)); omega
/-- one cell of the first part is set -/
theorem Sys.cellSet {X' : Asn} {g j : Nat} {u : Value} (h : Sys w wr (star X R)) (hR : Good R) (hX : ∀ H, X wr H → H g ∧ X' (wr.setCell ⟨g, j, none⟩ u) H) : Sys w (wr.setCell ⟨g, j, none⟩ u) (star X' R) := by
  obtain ⟨F, h1, h2, h3⟩ := h.call hR
  exact h3 _ F X' (hX F h1).2 ⟨(Mod.refl _ _).setCell (.inl (hX F h1).1) _, fun _ h => .inl h⟩
end
section
variable {w wr : World} {R : Asn}
theorem Sys.swap3 {A B C E : Asn} (h : Sys w wr (star A (star B (star C (star E R))))) : Sys w wr (star A (star B (star E (star C R)))) := h.mono (fun _ _ => star_mono (fun _ _ => star_mono (fun _ _ => star_swap)))
theorem Sys.start (w : World) : Sys w w emp := ⟨fun _ => False, fun _ h => h, fun _ h => h.elim, Below.refl _ _⟩
end
theorem star_fst2 {A B C : Asn} (h : ∀ W H, A W H → B W H) {W : World} {H : Nat → Prop} (hh : star A C W H) : star B C W H := star_comm (star_mono h (star_comm hh))
theorem ownsRow_lt {w : World} {base e size n : Nat} {v : Value} {xs : List Value} (h : w.ownsRow base e size v n xs) {b : Nat} (hb : v.ownBlock = some b) : b < w.heap.size := (World.ownsRow.lt h b hb).2
theorem ownsRow_keep {w w' : World} {base e size n : Nat} {v : Value} {xs : List Value} (h : w.ownsRow base e size v n xs) (hk : ∀ b, v.ownBlock = some b → w'.heap[b]? = w.heap[b]?) : w'.ownsRow base e size v n xs := by
  obtain ⟨hl, ⟨rfl, h0⟩ | ⟨g, cap, cur, rfl, hb, hg, r⟩⟩ := h
  · exact ⟨hl, .inl ⟨rfl, h0⟩⟩
  · exact ⟨hl, .inr ⟨g, cap, cur, rfl, hb, by rw [hk g rfl]; exact hg, r⟩⟩
section
variable {P : Program} {ops : Array Oper} {Q : Exit → Act → World → Prop} {S : World → Prop} {fuel : Nat} {listed : Array Bool} {a : Act} {w : World}
/-- what its guard leaves out -/
theorem hd_skip (i : Nat) {o : Oper} (hs : Region.noSelect ops = true) (hf : Region.free .any ops listed i = true) (hr : (Region.ready .any ops listed).contains i = true) (ho : ops[i]? = some o) (hw : Region.wanted o (yielded ops a.tmps) = false)
    (hQ : ∀ c a w, Q (.panic c) (a.put o.dst undef) w → Q (.panic c) a w) (h0 : S w) (h : wpAnyH P .any ops Q S fuel (listed.setIfInBounds i true) (a.put o.dst undef) w) : wpAnyH P .any ops Q S (fuel + 1) listed a w :=
  wpAnyH_take ho hs hf hr hQ (Or.inr ⟨hw, rfl⟩) h0 h
end
section
variable {P : Program} {ops : Array Oper} {Q : Exit → Act → World → Prop} {S : World → Prop} {fuel : Nat} {listed : Array Bool} {a : Act} {w : World}
/-- the two operations that may come up -/
theorem hd_both (i j : Nat) {o1 o2 : Oper} (hr : Region.ready .any ops listed = [i, j]) (ho1 : ops[i]? = some o1) (ho2 : ops[j]? = some o2) (hw1 : Region.wanted o1 (yielded ops a.tmps) = true) (hw2 : Region.wanted o2 (yielded ops a.tmps) = true)
    (h1 : ∀ K : Act → World → Prop, (∀ a w, S w → wpAnyH P .any ops Q S fuel (listed.setIfInBounds i true) a w → K a w) → Oper.wp P o1 a w K Q)
    (h2 : ∀ K : Act → World → Prop, (∀ a w, S w → wpAnyH P .any ops Q S fuel (listed.setIfInBounds j true) a w → K a w) → Oper.wp P o2 a w K Q) : wpAnyH P .any ops Q S (fuel + 1) listed a w := by
  refine wpAnyH_ready hr (by simp) (AllReadyH.cons ho1 (fun K hK => ?_) (AllReadyH.cons ho2 (fun K hK => ?_) AllReadyH.nil))
  · rw [if_pos hw1]; exact h1 K (fun a w hS hh => hK.out a w hS (fun _ => hh))
  · rw [if_pos hw2]; exact h2 K (fun a w hS hh => hK.out a w hS (fun _ => hh))
end
theorem cell_belowN {w w' : World} (hb : Below w.heap.size w w') {p : Addr} {v : Value} (h : w.cell? p = some v) : w'.cell? p = some v := by
  have hl : p.block < w.heap.size := by
    unfold World.cell? at h
    cases hq : w.heap[p.block]? with
    | none => simp [hq] at h
    | some o => exact (Array.getElem?_eq_some_iff.1 hq).1
  have := hb.block p.block hl
  unfold World.cell? at h ⊢
  rw [this]; exact h
end Go.Proofs.YteacmcdmdeckmaaGreat

namespace Go.Proofs.YteacmcdmdeckmaaGreat
open Go.RowKit

abbrev tp (T : Nat) : Value := .pointer (some ⟨T, 0, none⟩)
/-- a row of the document's book: a place and what lies there -/
abbrev Rw := (Nat × Nat) × Rc
def encW1 (x : Rw) : List Value := [.int .i64 (x.1.1 : Int), .int .i64 (x.1.2 : Int), .int .i64 x.2.k, .int .i64 x.2.o, .int .i64 x.2.s, .int .i64 x.2.r, .int .i64 x.2.e, .int .i64 x.2.t]
def encW (K : List Rw) : List Value := K.flatMap encW1
theorem encW_len (K : List Rw) : (encW K).length = K.length * 8 := by
  induction K with
  | nil => rfl
  | cons a t ih => simp only [encW, List.flatMap_cons, List.length_append, List.length_cons] at ih ⊢; rw [ih]; simp [encW1]; omega
theorem encW_at : ∀ (K : List Rw) (i j : Nat) (x : Rw) (v : Value), K[i]? = some x → (encW1 x)[j]? = some v → (encW K)[i * 8 + j]? = some v
  | [], i, j, x, v, h, _ => by simp at h
  | y :: r, 0, j, x, v, h1, h2 => by
    simp at h1; subst h1
    have hj : j < 8 := by have := (List.getElem?_eq_some_iff.1 h2).1; simpa [encW1] using this
    show (encW1 y ++ encW r)[0 * 8 + j]? = _
    rw [List.getElem?_append_left (by simp [encW1]; omega), ← h2]; congr 1; omega
  | y :: r, i + 1, j, x, v, h1, h2 => by
    show (encW1 y ++ encW r)[(i + 1) * 8 + j]? = _
    rw [List.getElem?_append_right (by simp [encW1]; omega), ← encW_at r i j x v (by simpa using h1) h2]
    congr 1; simp [encW1]; omega
theorem encW_app (K L : List Rw) : encW (K ++ L) = encW K ++ encW L := by simp [encW]
/-- which lists are open -/
def flg (bk : List (Option Lst)) : List Value := (List.range 16).map (fun e : Nat => Value.bool (look bk (e : Int)).isSome)
theorem flg_len (bk : List (Option Lst)) : (flg bk).length = 16 := by simp [flg]
theorem flg_at (bk : List (Option Lst)) {e : Nat} (h : e < 16) : (flg bk)[e]? = some (.bool (look bk (e : Int)).isSome) := by simp [flg, h]
structure RbAt (w : World) (R : Nat) (v : Value) (bk : List (Option Lst)) (K : List Rw) : Prop where
  top : w.heap[R]? = some (.cells (flg bk ++ [v]).toArray 43 (0, 0))
  row : w.ownsRow 0 60 8 v K.length (encW K)
  ne : v.ownBlock ≠ some R
structure Ag (bk : List (Option Lst)) (K : List Rw) : Prop where
  srt : K.Pairwise (fun a b => PLt a.1 b.1)
  mem : ∀ (a b : Nat) (r : Rc), ((a, b), r) ∈ K ↔ atB bk (a : Int) (b : Int) = some r
/-- the document's book at block R -/
def RbA (R : Nat) (bk : List (Option Lst)) : Asn := fun w F => ∃ v K, RbAt w R v bk K ∧ Ag bk K ∧ ∀ b, F b ↔ b = R ∨ v.ownBlock = some b
theorem RbAt.keep {w w' : World} {R : Nat} {v : Value} {bk : List (Option Lst)} {K : List Rw} (h : RbAt w R v bk K) (hk : ∀ b, b = R ∨ v.ownBlock = some b → w'.heap[b]? = w.heap[b]?) : RbAt w' R v bk K :=
  ⟨by rw [hk R (.inl rfl)]; exact h.top, ownsRow_keep h.row (fun b hb => hk b (.inr hb)), h.ne⟩
theorem good_rb (R : Nat) (bk : List (Option Lst)) : Good (RbA R bk) := by
  refine ⟨?_, ?_⟩
  · rintro W H ⟨v, K, h, _, he⟩ b hb
    rcases (he b).1 hb with rfl | e
    · exact (Array.getElem?_eq_some_iff.1 h.top).1
    · exact ownsRow_lt h.row e
  · rintro W W' H ⟨v, K, h, ha, he⟩ hs hk
    exact ⟨v, K, h.keep (fun b hb => hk b ((he b).2 hb)), ha, he⟩
section
variable {w : World} {R : Nat} {v : Value} {bk : List (Option Lst)} {K : List Rw} {F : Nat → Prop}
theorem RbAt.lt (h : RbAt w R v bk K) : R < w.heap.size := (Array.getElem?_eq_some_iff.1 h.top).1
theorem RbAt.rowc (h : RbAt w R v bk K) : w.cell? ⟨R, 16, none⟩ = some v := by
  rw [cell_of_row _ _ _ _ _ _ h.top]
  simp [flg]
theorem RbAt.flag (h : RbAt w R v bk K) {e : Nat} (he : e < 16) : w.cell? ⟨R, e, none⟩ = some (.bool (look bk (e : Int)).isSome) := by
  rw [cell_of_row _ _ _ _ _ _ h.top]
  simp only [List.getElem?_toArray]
  rw [List.getElem?_append_left (by rw [flg_len]; exact he)]; exact flg_at bk he
theorem RbAt.frz (h : RbAt w R v bk K) (j : Nat) : w.frozen? ⟨R, j, none⟩ = false := frozen_of_row _ _ _ _ _ h.top
theorem RbAt.below {w' : World} (h : RbAt w R v bk K) (hb : Below w.heap.size w w') : RbAt w' R v bk K :=
  h.keep (fun b hb' => hb.block b (hb'.elim (fun e => by rw [e]; exact h.lt) (fun e => ownsRow_lt h.row e)))
theorem below_dn {B n : Nat} {a w : World} (h : Below B a w) : Below B a (w.drewN n) := ⟨h.os, h.tape, h.output, h.size, h.block⟩
theorem RbAt.shape (h : RbAt w R v bk K) : ∃ a c, v = .slice a K.length c := own_shape h.row
structure Row8 (w : World) (g i : Nat) (x : Rw) : Prop where
  c0 : w.cell? ⟨g, i * 8, none⟩ = some (.int .i64 (x.1.1 : Int))
  c1 : w.cell? ⟨g, i * 8 + 1, none⟩ = some (.int .i64 (x.1.2 : Int))
  c2 : w.cell? ⟨g, i * 8 + 2, none⟩ = some (.int .i64 x.2.k)
  c3 : w.cell? ⟨g, i * 8 + 3, none⟩ = some (.int .i64 x.2.o)
  c4 : w.cell? ⟨g, i * 8 + 4, none⟩ = some (.int .i64 x.2.s)
  c5 : w.cell? ⟨g, i * 8 + 5, none⟩ = some (.int .i64 x.2.r)
  c6 : w.cell? ⟨g, i * 8 + 6, none⟩ = some (.int .i64 x.2.e)
  c7 : w.cell? ⟨g, i * 8 + 7, none⟩ = some (.int .i64 x.2.t)
theorem row8_of {n c g i : Nat} {x : Rw} (h : w.ownsRow 0 60 8 (.slice (some ⟨g, 0, none⟩) n c) n (encW K)) (hx : K[i]? = some x) : Row8 w g i x := by
  have hc : ∀ j u, (encW1 x)[j]? = some u → w.cell? ⟨g, i * 8 + j, none⟩ = some u := fun j u hj => by
    have := World.ownsRow.cells h rfl _ _ (encW_at K i j x u hx hj)
    rw [add0] at this; exact this
  exact ⟨hc 0 _ rfl, hc 1 _ rfl, hc 2 _ rfl, hc 3 _ rfl, hc 4 _ rfl, hc 5 _ rfl, hc 6 _ rfl, hc 7 _ rfl⟩
theorem RbAt.at (h : RbAt w R v bk K) {i : Nat} {x : Rw} (hx : K[i]? = some x) : ∃ g c, v = .slice (some ⟨g, 0, none⟩) K.length c ∧ Row8 w g i x := by
  have hil := (List.getElem?_eq_some_iff.1 hx).1
  obtain ⟨_, ⟨_, h0⟩ | ⟨g, cp, cur, hv, _⟩⟩ := h.row
  · omega
  · have hrow := h.row
    rw [hv] at hrow
    exact ⟨g, cp, hv, row8_of hrow hx⟩
theorem Ag.get (h : Ag bk K) {i : Nat} {x : Rw} (hx : K[i]? = some x) : atB bk (x.1.1 : Int) (x.1.2 : Int) = some x.2 := (h.mem x.1.1 x.1.2 x.2).1 (List.mem_of_getElem? hx)
theorem Ag.find (h : Ag bk K) {a b : Nat} {r : Rc} (hr : atB bk (a : Int) (b : Int) = some r) : ∃ i : Nat, K[i]? = some ((a, b), r) := List.getElem?_of_mem ((h.mem a b r).2 hr)
theorem Ag.once (h : Ag bk K) {i j : Nat} {x y : Rw} (hx : K[i]? = some x) (hy : K[j]? = some y) (he : x.1 = y.1) : i = j := by
  have hp := List.pairwise_iff_getElem.1 h.srt
  obtain ⟨hi, ei⟩ := List.getElem?_eq_some_iff.1 hx
  obtain ⟨hj, ej⟩ := List.getElem?_eq_some_iff.1 hy
  rcases Nat.lt_trichotomy i j with hlt | rfl | hlt
  · have := hp i j hi hj hlt
    rw [ei, ej, he] at this
    exact absurd rfl this.ne
  · rfl
  · have := hp j i hj hi hlt
    rw [ei, ej, he] at this
    exact absurd rfl this.ne
end
section
variable {w : World} {R : Nat} {bk : List (Option Lst)} {F : Nat → Prop}
set_option maxRecDepth 100000 in
set_option maxHeartbeats 3200000 in
/-- where a place stands in the list -/
theorem at_any {v : Value} {K : List Rw} (h : RbAt w R v bk K) (hl : K.length ≤ 4000) (e s : Int) : Calls Tryz.prog 32 #[tp R, .agg #[.int .i64 e, .int .i64 s]] w fun x w' => Below w.heap.size w w' ∧ ((∃ (i : Nat) (y : Rw), x = .returned (.int .i64 (i : Int)) ∧ K[i]? = some y ∧ e = (y.1.1 : Int) ∧ s = (y.1.2 : Int)) ∨ (x = .returned (.int .i64 (-1)) ∧ ∀ y ∈ K, ¬ (e = (y.1.1 : Int) ∧ s = (y.1.2 : Int)))) := by
  have HR := hide h
  obtain ⟨a, c, hv⟩ := h.shape
  obtain ⟨L, hL⟩ : ∃ L, K.length = L := ⟨_, rfl⟩
  rw [hL] at hv hl
  have HL := hide hL
  subst hv
  clear h hL
  go_enter Tryz.func32, Tryz.ntmps32
  go_wp2
  go_loopw [5] (fun x wr => ∃ k : Nat, k ≤ L ∧ x = .int .i64 (k : Int) ∧ Hid (Below w.heap.size w wr ∧ wr.heap[w.heap.size]? = some (.cells #[.int .i64 e, .int .i64 s] 48 (0, 0)) ∧ ∀ j y, j < k → K[j]? = some y → ¬ (e = (y.1.1 : Int) ∧ s = (y.1.2 : Int)))) (fun x _ => L - (intOf x).toNat)
  case atStart => exact ⟨0, by omega, rfl, (Below.refl _ _).alloc (Nat.le_refl _) _, heap_alloc_last _ _, fun j y hj => by omega⟩
  case round =>
  obtain ⟨k, hk, rfl, KK⟩ := hrel
  have hR := HR.out.below KK.out.1
  have c16 := hR.rowc
  have b0 : wr.cell? ⟨w.heap.size, 0, none⟩ = some (.int .i64 e) := by rw [cell_of_row _ _ _ _ _ _ KK.out.2.1]; rfl
  have b1 : wr.cell? ⟨w.heap.size, 1, none⟩ = some (.int .i64 s) := by rw [cell_of_row _ _ _ _ _ _ KK.out.2.1]; rfl
  by_cases hlt : k < L
  · have hd : decide ((k : Int) < (L : Int)) = true := by simp; omega
    have hki : (k : Int) < (L : Int) := by omega
    obtain ⟨y, hy⟩ : ∃ y, K[k]? = some y := ⟨_, List.getElem?_eq_getElem (by rw [HL.out]; exact hlt)⟩
    obtain ⟨g, c', hv, hrow⟩ := hR.at hy
    rw [HL.out] at hv
    cases hv
    have r0 := hrow.c0
    have r1 := hrow.c1
    have HY := hide hy
    obtain ⟨⟨ya, yb⟩, yr⟩ := y
    simp only at r0 r1
    clear hrow hR hy
    by_cases he : (ya : Int) = e
    · have he1 : ((ya : Int) == e) = true := by simp [he]
      by_cases hs : (yb : Int) = s
      · have hs1 : ((yb : Int) == s) = true := by simp [hs]
        have HE := hide (And.intro he.symm hs.symm)
        clear he hs
        go_wp2
        go_quiet (fail)
        go_wp2
        go_ret
        exact ⟨below_dn KK.out.1, .inl ⟨k, _, rfl, HY.out, HE.out.1, HE.out.2⟩⟩
      · have hs1 : ((yb : Int) == s) = false := by rw [beq_eq_false_iff_ne]; exact hs
        have HN : Hid (∀ q, Below w.heap.size w (wr.drewN q) ∧ (wr.drewN q).heap[w.heap.size]? = some (.cells #[.int .i64 e, .int .i64 s] 48 (0, 0)) ∧ ∀ j y, j < k + 1 → K[j]? = some y → ¬ (e = (y.1.1 : Int) ∧ s = (y.1.2 : Int))) := by
          refine hide (fun q => ⟨below_dn KK.out.1, KK.out.2.1, fun j y hj hy => ?_⟩)
          by_cases e1 : j = k
          · subst e1; rw [HY.out] at hy; cases hy; exact fun h => hs h.2.symm
          · exact KK.out.2.2 j y (by omega) hy
        clear he hs
        go_wp2
        go_quiet (fail)
        go_wp2
        go_roundw
        case rel => exact ⟨k + 1, by omega, by go_num, HN.out _⟩
        case measure => simp [intOf]; omega
    · have he1 : ((ya : Int) == e) = false := by rw [beq_eq_false_iff_ne]; exact he
      have HN : Hid (∀ q, Below w.heap.size w (wr.drewN q) ∧ (wr.drewN q).heap[w.heap.size]? = some (.cells #[.int .i64 e, .int .i64 s] 48 (0, 0)) ∧ ∀ j y, j < k + 1 → K[j]? = some y → ¬ (e = (y.1.1 : Int) ∧ s = (y.1.2 : Int))) := by
        refine hide (fun q => ⟨below_dn KK.out.1, KK.out.2.1, fun j y hj hy => ?_⟩)
        by_cases e1 : j = k
        · subst e1; rw [HY.out] at hy; cases hy; exact fun h => he h.1.symm
        · exact KK.out.2.2 j y (by omega) hy
      clear he
      go_wp2
      go_quiet (fail)
      go_wp2
      go_roundw
      case rel => exact ⟨k + 1, by omega, by go_num, HN.out _⟩
      case measure => simp [intOf]; omega
  · obtain rfl : k = L := by omega
    have hd : decide ((k : Int) < (k : Int)) = false := by simp
    clear hR
    go_wp2
    go_ret
    refine ⟨KK.out.1, .inr ⟨rfl, fun y hy => ?_⟩⟩
    obtain ⟨j, hj⟩ := List.getElem?_of_mem hy
    exact KK.out.2.2 j y (by rw [← HL.out]; exact (List.getElem?_eq_some_iff.1 hj).1) hj
end
end Go.Proofs.YteacmcdmdeckmaaGreat

namespace Go.Proofs.YteacmcdmdeckmaaGreat
open Go.RowKit

/-- no more than there are places -/
def P8 (bk : List (Option Lst)) : Prop := (pls (fun _ => true) bk).length ≤ 768
/-- sixteen lists of forty-eight places -/
structure Wb (bk : List (Option Lst)) : Prop where
  l16 : bk.length = 16
  l48 : ∀ (i : Nat) (l : Lst), bk[i]? = some (some l) → l.length = 48
  p8 : P8 bk
theorem Book.wb {w : World} {F : Nat → Prop} {B : Nat} {bk : List (Option Lst)} (h : Book w F B bk) : Wb bk := ⟨h.blen, fun _ _ hl => h.l48 hl, pls_le h _⟩
theorem plt_irr (p : Nat × Nat) : ¬ PLt p p := fun h => h.ne rfl
theorem Ag.nodup {bk : List (Option Lst)} {K : List Rw} (h : Ag bk K) : (K.map (·.1)).Nodup := by
  unfold List.Nodup
  rw [List.pairwise_map]
  exact h.srt.imp (fun hp => hp.ne)
theorem Ag.len {bk : List (Option Lst)} {K : List Rw} (h : Ag bk K) (hp : P8 bk) : K.length ≤ 768 := by
  have h1 := nodup_le (K.map (·.1)) (pls (fun _ => true) bk) h.nodup (fun x hx => by
    obtain ⟨y, hy, rfl⟩ := List.mem_map.1 hx
    obtain ⟨⟨a, b⟩, r⟩ := y
    exact mem_pls.2 ⟨r, (h.mem a b r).1 hy, rfl⟩)
  rw [List.length_map] at h1
  exact Nat.le_trans h1 hp
section
variable {w : World} {R : Nat} {bk bk' : List (Option Lst)} {F : Nat → Prop} {v : Value} {K : List Rw}
/-- where a place stands, over the book -/
theorem atb_any (h : RbAt w R v bk K) (ha : Ag bk K) (hp : P8 bk) (e s : Int) : Calls Tryz.prog 32 #[tp R, .agg #[.int .i64 e, .int .i64 s]] w fun x w' => Below w.heap.size w w' ∧ ((∃ (i : Nat) (a b : Nat) (r : Rc), x = .returned (.int .i64 (i : Int)) ∧ K[i]? = some ((a, b), r) ∧ e = (a : Int) ∧ s = (b : Int) ∧ atB bk e s = some r) ∨ (x = .returned (.int .i64 (-1)) ∧ atB bk e s = none)) := by
  refine (at_any h (Nat.le_trans (ha.len hp) (by omega)) e s).mono ?_
  rintro x w' ⟨hb, ⟨i, ⟨⟨a, b⟩, r⟩, rfl, hi, rfl, rfl⟩ | ⟨rfl, hn⟩⟩
  · exact ⟨hb, .inl ⟨i, a, b, r, rfl, hi, rfl, rfl, ha.get hi⟩⟩
  · refine ⟨hb, .inr ⟨rfl, ?_⟩⟩
    cases hq : atB bk e s with
    | none => rfl
    | some r =>
      obtain ⟨a, b, l, rfl, rfl, _⟩ := atB_some hq
      exact absurd ⟨rfl, rfl⟩ (hn _ ((ha.mem a b r).2 hq))
theorem hasR_any (h : RbAt w R v bk K) (hw : Wb bk) (e : Int) : Calls Tryz.prog 35 #[tp R, .int .i64 e] w fun x w' => x = .returned (.bool (look bk e).isSome) ∧ w' = w := by
  by_cases h0 : e < 0
  · have hd : decide (0 ≤ e) = false := by simp; omega
    rw [look_out bk e (.inl h0)]
    clear h h0
    go_enter Tryz.func35, Tryz.ntmps35
    go_wp2
    go_ret
    exact ⟨rfl, rfl⟩
  · by_cases h1 : 16 ≤ e
    · have hd : decide (0 ≤ e) = true := by simp; omega
      have hd2 : decide (e < 16) = false := by simp; omega
      rw [look_out bk e (.inr (by rw [hw.l16]; exact h1))]
      clear h h0 h1
      go_enter Tryz.func35, Tryz.ntmps35
      go_wp2
      go_ret
      exact ⟨rfl, rfl⟩
    · obtain ⟨k, rfl⟩ : ∃ k : Nat, e = (k : Int) := ⟨e.toNat, by omega⟩
      have hk : k < 16 := by omega
      have hki : (k : Int) < 16 := by omega
      have hd : decide ((0 : Int) ≤ (k : Int)) = true := by simp
      have hd2 : decide ((k : Int) < 16) = true := by simp; omega
      have hd3 : decide (k < 16) = true := by simp; omega
      have c := h.flag hk
      generalize (look bk (k : Int)).isSome = t at c ⊢
      clear h h0 h1 hw
      go_enter Tryz.func35, Tryz.ntmps35
      go_wp2
      go_ret
      exact ⟨rfl, rfl⟩
theorem noneR_any (w : World) : Calls Tryz.prog 31 #[] w fun x w' => x = .returned (.agg #[.int .i64 (-1), .int .i64 (-1)]) ∧ Below w.heap.size w w' := by
  have hb := fun o => (Below.refl w.heap.size w).alloc (Nat.le_refl _) o
  go_enter Tryz.func31, Tryz.ntmps31
  go_wp2
  go_returns
  exact ⟨rfl, hb _⟩
theorem heldR_any (w : World) (a b : Int) (r : Rc) : Calls Tryz.prog 36 #[.agg #[.int .i64 a, .int .i64 b, .int .i64 r.k, .int .i64 r.o, .int .i64 r.s, .int .i64 r.r, .int .i64 r.e, .int .i64 r.t]] w fun x w' => x = .returned (.agg #[.int .i64 a, .int .i64 b, .int .i64 r.k, .int .i64 r.o, .int .i64 r.s, .int .i64 r.r]) ∧ Below w.heap.size w w' := by
  have hb := fun o o' => ((Below.refl w.heap.size w).alloc (Nat.le_refl _) o).alloc (by simp) o'
  go_enter Tryz.func36, Tryz.ntmps36
  go_wp2
  go_returns
  exact ⟨rfl, hb _ _⟩
theorem aheadR_any (w : World) (a b c d : Int) : Calls Tryz.prog 99 #[.agg #[.int .i64 a, .int .i64 b], .agg #[.int .i64 c, .int .i64 d]] w fun x w' => x = .returned (.bool (decide (a < c ∨ (a = c ∧ b < d)))) ∧ Below w.heap.size w w' := by
  have hb := fun o o' => ((Below.refl w.heap.size w).alloc (Nat.le_refl _) o).alloc (by simp) o'
  by_cases h1 : a < c
  · have hd : decide (a < c) = true := by simp [h1]
    rw [show decide (a < c ∨ (a = c ∧ b < d)) = true by simp [h1]]
    clear h1
    go_enter Tryz.func99, Tryz.ntmps99
    go_wp2
    go_ret
    exact ⟨rfl, hb _ _⟩
  · have hd : decide (a < c) = false := by simp; omega
    by_cases h2 : a = c
    · have hd2 : (a == c) = true := by simp [h2]
      rw [show decide (a < c ∨ (a = c ∧ b < d)) = decide (b < d) by simp [h2]]
      clear h1 h2
      go_enter Tryz.func99, Tryz.ntmps99
      go_wp2
      go_ret
      exact ⟨rfl, hb _ _⟩
    · have hd2 : (a == c) = false := by rw [beq_eq_false_iff_ne]; exact h2
      rw [show decide (a < c ∨ (a = c ∧ b < d)) = false by simp [h1, h2]]
      clear h1 h2
      go_enter Tryz.func99, Tryz.ntmps99
      go_wp2
      go_ret
      exact ⟨rfl, hb _ _⟩
theorem lookR_any (h : RbAt w R v bk K) (ha : Ag bk K) (hw : Wb bk) (e s : Int) : Calls Tryz.prog 28 #[tp R, .int .i64 e, .int .i64 s] w fun x w' => Below w.heap.size w w' ∧ ((∃ (i : Nat) (a b : Nat) (r : Rc), x = .returned (.tuple #[.int .i64 (i : Int), .int .i64 0]) ∧ K[i]? = some ((a, b), r) ∧ e = (a : Int) ∧ s = (b : Int) ∧ atB bk e s = some r ∧ lcode bk e s = 0) ∨ (x = .returned (.tuple #[.int .i64 (-1), .int .i64 (lcode bk e s)]) ∧ atB bk e s = none ∧ (lcode bk e s = 80 ∨ lcode bk e s = 83))) := by
  have H1 := hide (hasR_any h hw e)
  have H2 := hide (atb_any h ha hw.p8 e s)
  clear h
  cases hl : look bk e with
  | none =>
    rw [hl] at H1
    have HC := hide (lcode_closed (s := s) hl)
    have hc := HC.out.1
    generalize lcode bk e s = cc at hc HC ⊢
    clear hl
    go_enter Tryz.func28, Tryz.ntmps28
    go_wp2_with fail
    refine H1.out.mono ?_
    rintro e1 w1 ⟨rfl, rfl⟩
    go_wp2
    go_ret2
    exact ⟨Below.refl _ _, .inr ⟨by rw [HC.out.1]; rfl, HC.out.2, .inr HC.out.1⟩⟩
  | some l =>
    rw [hl] at H1
    have HLk := hide hl
    clear hl
    go_enter Tryz.func28, Tryz.ntmps28
    go_wp2_with fail
    refine H1.out.mono ?_
    rintro e1 w1 ⟨rfl, rfl⟩
    go_wp2_with fail
    refine H2.out.mono ?_
    rintro e1 w2 ⟨hb2, ⟨i, a, b, r, rfl, hi, he, hs, hr⟩ | ⟨rfl, hn⟩⟩
    · have HB := hide (And.intro hb2 (And.intro hi (And.intro he (And.intro hs hr))))
      have hil : (0 : Int) ≤ (i : Int) := by omega
      have hd : decide ((i : Int) < 0) = false := by simp
      clear hb2 hi he hs hr H1 H2
      go_wp2
      go_ret2
      obtain ⟨q1, q2, q3, q4, q5⟩ := HB.out
      exact ⟨q1, .inl ⟨i, a, b, r, rfl, q2, q3, q4, q5, by unfold lcode; rw [HLk.out, q5]; rfl⟩⟩
    · have HB := hide (And.intro hb2 hn)
      clear hb2 hn H1 H2
      go_wp2
      go_ret2
      have hc : lcode bk e s = 80 := by unfold lcode; rw [HLk.out, HB.out.2]; rfl
      exact ⟨HB.out.1, .inr ⟨by rw [hc]; rfl, HB.out.2, .inl hc⟩⟩
end
end Go.Proofs.YteacmcdmdeckmaaGreat

namespace Go.Proofs.YteacmcdmdeckmaaGreat
open Go.RowKit

section
variable {w : World} {R : Nat} {bk bk' : List (Option Lst)} {F : Nat → Prop} {v : Value} {K : List Rw}
theorem flg_set (bk bk' : List (Option Lst)) {k : Nat} {t : Bool} (hk : k < 16) (h : ∀ x : Nat, x < 16 → (look bk' (x : Int)).isSome = if x = k then t else (look bk (x : Int)).isSome) : flg bk' = (flg bk).set k (.bool t) := by
  apply List.ext_getElem?
  intro i
  by_cases hi : i < 16
  · rw [flg_at bk' hi, List.getElem?_set, h i hi]
    split
    · rename_i e
      subst e
      rw [if_pos rfl, if_pos (by rw [flg_len]; exact hi)]
    · rename_i e
      rw [if_neg (fun e' => e e'.symm), flg_at bk hi]
  · rw [List.getElem?_eq_none (by rw [flg_len]; omega), List.getElem?_eq_none (by rw [List.length_set, flg_len]; omega)]
theorem openR_any (h : RbA R bk w F) (hw : Wb bk) (e c : Int) (ho : OpenR bk e c bk') : Calls Tryz.prog 50 #[tp R, .int .i64 e] w fun x w' => x = .returned (.int .i64 c) ∧ RbA R bk' w' F ∧ Ext F w F w' := by
  obtain ⟨v, K, h, ha, he⟩ := h
  by_cases h0 : e < 0
  · have hd : decide (e < 0) = true := by simp [h0]
    obtain ⟨rfl, rfl⟩ : c = 83 ∧ bk' = bk := by
      rcases ho with ⟨k, rfl, _⟩ | ⟨h1, h2, _⟩
      · omega
      · exact ⟨h1, h2⟩
    have HF : Hid (RbA R bk' w F) := hide ⟨v, K, h, ha, he⟩
    clear h ho h0
    go_enter Tryz.func50, Tryz.ntmps50
    go_wp2
    go_ret
    exact ⟨rfl, HF.out, Ext.refl _ _⟩
  · have hd : decide (e < 0) = false := by simp; omega
    by_cases h1 : 16 ≤ e
    · have hd2 : decide (16 ≤ e) = true := by simp [h1]
      obtain ⟨rfl, rfl⟩ : c = 83 ∧ bk' = bk := by
        rcases ho with ⟨k, rfl, hk, _⟩ | ⟨h1, h2, _⟩
        · have := (List.getElem?_eq_some_iff.1 hk).1
          rw [hw.l16] at this; omega
        · exact ⟨h1, h2⟩
      have HF : Hid (RbA R bk' w F) := hide ⟨v, K, h, ha, he⟩
      clear h ho h0 h1
      go_enter Tryz.func50, Tryz.ntmps50
      go_wp2
      go_ret
      exact ⟨rfl, HF.out, Ext.refl _ _⟩
    · obtain ⟨k, rfl⟩ : ∃ k : Nat, e = (k : Int) := ⟨e.toNat, by omega⟩
      have hk : k < 16 := by omega
      have hki : (k : Int) < 16 := by omega
      have hd2 : decide ((16 : Int) ≤ (k : Int)) = false := by simp; omega
      have hd3 : decide (16 ≤ k) = false := by simp; omega
      have cf := h.flag hk
      have ff := h.frz k
      cases hq : (look bk (k : Int)).isSome with
      | true =>
        rw [hq] at cf
        obtain ⟨rfl, rfl⟩ : c = 83 ∧ bk' = bk := by
          rcases ho with ⟨k', e1, hk', _⟩ | ⟨h1, h2, _⟩
          · obtain rfl : k = k' := by omega
            rw [look_nat, hk'] at hq; cases hq
          · exact ⟨h1, h2⟩
        have HF : Hid (RbA R bk' w F) := hide ⟨v, K, h, ha, he⟩
        clear h ho h0 h1 hq
        go_enter Tryz.func50, Tryz.ntmps50
        go_wp2
        go_ret
        exact ⟨rfl, HF.out, Ext.refl _ _⟩
      | false =>
        rw [hq] at cf
        obtain ⟨rfl, hv, hs⟩ := open_view (by rw [hw.l16]; exact hk) hq ho
        have HF : Hid (RbA R bk' (w.setCell ⟨R, k, none⟩ (.bool true)) F ∧ Ext F w F (w.setCell ⟨R, k, none⟩ (.bool true))) := by
          refine hide ⟨⟨v, K, ⟨?_, ownsRow_keep h.row (fun b hb => heap_setCell_other _ _ _ _ (fun e => h.ne (by have e2 : b = R := e; rw [← e2]; exact hb))), h.ne⟩, ⟨ha.srt, fun a b r => by rw [ha.mem, hv]⟩, he⟩, (Mod.refl _ _).setCell (.inl ((he R).2 (.inl rfl))) _, fun _ h => .inl h⟩
          rw [heap_setCell_same _ _ _ _ _ _ h.top, flg_set bk bk' (t := true) hk (fun x hx => by
            rw [hs x]
            split
            · rename_i e; simp [e]
            · rename_i e; simp [e])]
          congr 2
          apply Array.ext'
          simp only [Array.toList_setIfInBounds]
          rw [List.set_append_left _ _ (by rw [flg_len]; exact hk)]
        clear h ho h0 h1 hq hv hs
        go_enter Tryz.func50, Tryz.ntmps50
        go_upto_region 4 with fail
        generalize w.setCell ⟨R, k, none⟩ (.bool true) = w3 at *
        go_wp2
        go_ret
        exact ⟨rfl, HF.out.1, HF.out.2⟩
/-- the lowest free place of a list -/
theorem freeR_any (h : RbAt w R v bk K) (ha : Ag bk K) (hp : P8 bk) (e : Int) : Calls Tryz.prog 98 #[tp R, .int .i64 e] w fun x w' => Below w.heap.size w w' ∧ ((∃ k : Nat, k < 48 ∧ x = .returned (.int .i64 (k : Int)) ∧ atB bk e (k : Int) = none ∧ ∀ j : Nat, j < k → atB bk e (j : Int) ≠ none) ∨ (x = .returned (.int .i64 (-1)) ∧ ∀ j : Nat, j < 48 → atB bk e (j : Int) ≠ none)) := by
  have HR := hide h
  have HA := hide ha
  have HP := hide hp
  clear h ha hp
  go_enter Tryz.func98, Tryz.ntmps98
  go_wp2
  go_loopw [5] (fun x wr => ∃ k : Nat, k ≤ 48 ∧ x = .int .i64 (k : Int) ∧ Hid (Below w.heap.size w wr ∧ ∀ j : Nat, j < k → atB bk e (j : Int) ≠ none)) (fun x _ => 48 - (intOf x).toNat)
  case atStart => exact ⟨0, by omega, rfl, Below.refl _ _, fun j hj => by omega⟩
  case round =>
  obtain ⟨k, hk, rfl, KK⟩ := hrel
  by_cases hlt : k < 48
  · have hd : decide ((k : Int) < 48) = true := by simp; omega
    have HQ := hide (atb_any (HR.out.below KK.out.1) HA.out HP.out e (k : Int))
    go_wp2_with fail
    refine HQ.out.mono ?_
    rintro e1 w2 ⟨hb2, ⟨i, a, b, r, rfl, -, -, -, hr⟩ | ⟨rfl, hn⟩⟩
    · have HN : Hid (Below w.heap.size w w2 ∧ ∀ j : Nat, j < k + 1 → atB bk e (j : Int) ≠ none) := by
        refine hide ⟨KK.out.1.trans (hb2.mono KK.out.1.size), fun j hj => ?_⟩
        by_cases e1 : j = k
        · subst e1; rw [hr]; exact fun h => by cases h
        · exact KK.out.2 j (by omega)
      have hd2 : decide ((i : Int) < 0) = false := by simp
      clear hb2 hr HQ
      go_wp2
      go_roundw
      case rel => first | exact ⟨k + 1, by omega, by go_num, HN⟩ | ((repeat apply Exists.intro); refine ⟨?_, rfl⟩; exact ⟨k + 1, by omega, by go_num, HN⟩)
      case measure => simp [intOf]; omega
    · have HN := hide (And.intro (KK.out.1.trans (hb2.mono KK.out.1.size)) hn)
      clear hb2 hn HQ
      go_wp2
      go_ret
      exact ⟨HN.out.1, .inl ⟨k, hlt, rfl, HN.out.2, KK.out.2⟩⟩
  · obtain rfl : k = 48 := by omega
    have hd : decide ((48 : Int) < 48) = false := by simp
    go_wp2
    go_ret
    exact ⟨KK.out.1, .inr ⟨rfl, KK.out.2⟩⟩
end
end Go.Proofs.YteacmcdmdeckmaaGreat
