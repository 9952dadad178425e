import Derived.Deep.RegionHeld
import Derived.BigQuiet
import Derived.Deep.Cut
import Derived.Deep.DeepCutAuto
import Derived.WalkSmall
import Derived.Test.YtbocpmcodlceoaaGreatMC
namespace Go.Proofs.YtbocpmcodlceoaaGreat
open Go.RowKit

abbrev Asn := World → (Nat → Prop) → Prop
structure Good (A : Asn) : Prop where
  lt : ∀ {W : World} {H : Nat → Prop}, A W H → ∀ b, H b → b < W.heap.size
  keep : ∀ {W W' : World} {H : Nat → Prop}, A W H → W.heap.size ≤ W'.heap.size → (∀ b, H b → W'.heap[b]? = W.heap[b]?) → A W' H
/-- the one and, apart from it, the other -/
def star (A B : Asn) : Asn := fun W H => ∃ H1 H2 : Nat → Prop, A W H1 ∧ B W H2 ∧ (∀ b, H b ↔ H1 b ∨ H2 b) ∧ ∀ b, H1 b → ¬ H2 b
def emp : Asn := fun _ H => ∀ b, ¬ H b
theorem good_emp : Good emp := ⟨fun h b hb => absurd hb (h b), fun h _ _ => h⟩
theorem Good.star {A B : Asn} (hA : Good A) (hB : Good B) : Good (star A B) := by
  refine ⟨?_, ?_⟩
  · rintro W H ⟨H1, H2, h1, h2, h3, h4⟩ b hb
    rcases (h3 b).1 hb with h | h
    · exact hA.lt h1 b h
    · exact hB.lt h2 b h
  · rintro W W' H ⟨H1, H2, h1, h2, h3, h4⟩ hs hk
    exact ⟨H1, H2, hA.keep h1 hs (fun b hb => hk b ((h3 b).2 (.inl hb))), hB.keep h2 hs (fun b hb => hk b ((h3 b).2 (.inr hb))), h3, h4⟩
theorem star_swap {A B C : Asn} {W : World} {H : Nat → Prop} (h : star A (star B C) W H) : star B (star A C) W H := by
  obtain ⟨H1, H23, h1, ⟨H2, H3, h2, h3, e23, d23⟩, e, d⟩ := h
  refine ⟨H2, fun b => H1 b ∨ H3 b, h2, ⟨H1, H3, h1, h3, fun _ => Iff.rfl, fun b hb hb3 => d b hb ((e23 b).2 (.inr hb3))⟩, fun b => ?_, fun b hb => ?_⟩
  · rw [e b, e23 b]
    constructor
    · rintro (h | h | h)
      · exact .inr (.inl h)
      · exact .inl h
      · exact .inr (.inr h)
    · rintro (h | h | h)
      · exact .inr (.inl h)
      · exact .inl h
      · exact .inr (.inr h)
  · rintro (h | h)
    · exact d b h ((e23 b).2 (.inl hb))
    · exact d23 b hb h
theorem star_mono {A B C : Asn} (h : ∀ W H, B W H → C W H) {W : World} {H : Nat → Prop} (hh : star A B W H) : star A C W H := by
  obtain ⟨H1, H2, h1, h2, h3, h4⟩ := hh
  exact ⟨H1, H2, h1, h _ _ h2, h3, h4⟩
/-- all that the law has in its hands: the first n blocks are as they were -/
def Sys (w wr : World) (A : Asn) : Prop := ∃ H : Nat → Prop, A wr H ∧ (∀ b, H b → w.heap.size ≤ b) ∧ Below w.heap.size w wr
section
variable {w wr w' : World} {A A' R : Asn}
theorem Sys.mono (h : Sys w wr A) (hm : ∀ W H, A W H → A' W H) : Sys w wr A' := by
  obtain ⟨H, h1, h2, h3⟩ := h; exact ⟨H, hm _ _ h1, h2, h3⟩
theorem Sys.bel (h : Sys w wr A) : Below w.heap.size w wr := by obtain ⟨H, h1, h2, h3⟩ := h; exact h3
theorem Sys.below (h : Sys w wr A) (hA : Good A) (hb : Below wr.heap.size wr w') : Sys w w' A := by
  obtain ⟨H, h1, h2, h3⟩ := h
  exact ⟨H, hA.keep h1 hb.size (fun b hb' => hb.block b (hA.lt h1 b hb')), h2, h3.trans (hb.mono h3.size)⟩
theorem Sys.alloc (h : Sys w wr A) (hA : Good A) (o : Obj) : Sys w (wr.alloc o) A := h.below hA ((Below.refl _ _).alloc (Nat.le_refl _) o)
/-- the first part's call: what it is handed, what it leaves -/
theorem Sys.call {X : Asn} (h : Sys w wr (star X R)) (hR : Good R) :
    ∃ F : Nat → Prop, X wr F ∧ (∀ b, F b → w.heap.size ≤ b) ∧ ∀ (w' : World) (F' : Nat → Prop) (X' : Asn), X' w' F' → Ext F wr F' w' → Sys w w' (star X' R) := by
  obtain ⟨H, ⟨H1, H2, h1, h2, h3, h4⟩, hl, hb⟩ := h
  refine ⟨H1, h1, fun b hb1 => hl b ((h3 b).2 (.inl hb1)), fun w' F' X' hT hE => ?_⟩
  have hn : ∀ b, H2 b → b < wr.heap.size ∧ ¬ H1 b := fun b hb2 => ⟨hR.lt h2 b hb2, fun hb1 => h4 b hb1 hb2⟩
  refine ⟨fun b => F' b ∨ H2 b, ⟨F', H2, hT, hR.keep h2 hE.mod.size (fun b hb2 => hE.mod.block b (hn b hb2).1 (hn b hb2).2), fun _ => Iff.rfl, ?_⟩, ?_, ?_⟩
  · intro b hb hb2
    rcases hE.new b hb with h5 | h5
    · exact (hn b hb2).2 h5
    · have := (hn b hb2).1; omega
  · rintro b (hb' | hb')
    · rcases hE.new b hb' with h5 | h5
      · exact hl b ((h3 b).2 (.inl h5))
      · have := hb.size; omega
    · exact hl b ((h3 b).2 (.inr hb'))
  · exact hb.trans (hE.mod.below (fun b hb' => hl b ((h3 b).2 (.inl hb'))) hb.size)
theorem Sys.new (h : Sys w wr R) (hR : Good R) {Fc : Nat → Prop} {X : Asn} (hT : X w' Fc) (hl : ∀ b, Fc b → wr.heap.size ≤ b) (hb : Below wr.heap.size wr w') : Sys w w' (star X R) := by
  obtain ⟨H, h1, h2, h3⟩ := h
  have hlt := hR.lt h1
  exact ⟨fun b => Fc b ∨ H b, ⟨Fc, H, hT, hR.keep h1 hb.size (fun b hb' => hb.block b (hlt b hb')), fun _ => Iff.rfl, fun b h4 h5 => by have := hl b h4; have := hlt b h5; omega⟩,
    fun b h4 => by rcases h4 with h4 | h4; have := hl b h4; have := h3.size; omega; exact h2 b h4, h3.trans (hb.mono h3.size)⟩
end
theorem star_comm {A B : Asn} {W : World} {H : Nat → Prop} (h : star A B W H) : star B A W H := by
  obtain ⟨H1, H2, h1, h2, h3, h4⟩ := h
  exact ⟨H2, H1, h2, h1, fun b => by rw [h3 b]; exact Or.comm, fun b hb hb1 => h4 b hb1 hb⟩
theorem Sys.drop {w wr : World} {X R : Asn} (h : Sys w wr (star X R)) : Sys w wr R := by
  obtain ⟨H, ⟨H1, H2, h1, h2, h3, h4⟩, hl, hb⟩ := h
  exact ⟨H2, h2, fun b hb' => hl b ((h3 b).2 (.inr hb')), hb⟩
section
variable {w wr : World} {X R : Asn}
theorem star_assoc {A B C : Asn} {W : World} {H : Nat → Prop} (h : star (star A B) C W H) : star A (star B C) W H := by
  obtain ⟨H1, H2, ⟨H3, H4, a1, a2, a3, a4⟩, c1, c2, c3⟩ := h
  refine ⟨H3, fun b => H4 b ∨ H2 b, a1, ⟨H4, H2, a2, c1, fun b => Iff.rfl, fun b hb => c3 b ((a3 b).2 (.inr hb))⟩, fun b => ?_, fun b hb hc => ?_⟩
  · rw [c2, a3]; exact or_assoc
  · rcases hc with hc | hc
    · exact a4 b hb hc
    · exact c3 b ((a3 b).2 (.inl hb)) hc
theorem star_assoc2 {A B C : Asn} {W : World} {H : Nat → Prop} (h : star A (star B C) W H) : star (star A B) C W H := by
  obtain ⟨H1, H2, a1, ⟨H3, H4, b1, b2, b3, b4⟩, c2, c3⟩ := h
  refine ⟨fun b => H1 b ∨ H3 b, H4, ⟨H1, H3, a1, b1, fun b => Iff.rfl, fun b hb hc => c3 b hb ((b3 b).2 (.inl hc))⟩, b2, fun b => ?_, fun b hb hc => ?_⟩
  · rw [c2, b3]; exact or_assoc.symm
  · rcases hb with hb | hb
    · exact c3 b hb ((b3 b).2 (.inr hc))
    · exact b4 b hb hc
theorem Sys.head (h : Sys w wr (star X R)) : ∃ F, X wr F := by
  obtain ⟨H, ⟨H1, H2, a1, _⟩, _⟩ := h; exact ⟨H1, a1⟩
theorem Sys.swap {Y : Asn} (h : Sys w wr (star X (star Y R))) : Sys w wr (star Y (star X R)) := h.mono (fun _ _ => star_swap)
theorem Sys.swap2 {Y Z : Asn} (h : Sys w wr (star X (star Y (star Z R)))) : Sys w wr (star X (star Z (star Y R))) := h.mono (fun _ _ => star_mono (fun _ _ => star_swap))
/-- what lies beside what is called -/
theorem Sys.beside {Y : Asn} (h : Sys w wr (star X (star Y R))) (hY : Good Y) (hR : Good R) :
    ∃ F HY : Nat → Prop, X wr F ∧ (∀ b, F b → w.heap.size ≤ b) ∧ Y wr HY ∧ (∀ b, HY b → ¬ F b) ∧ ∀ (w' : World) (F' : Nat → Prop) (X' : Asn), X' w' F' → Ext F wr F' w' → Sys w w' (star X' (star Y R)) := by
  obtain ⟨H, ⟨H1, H2, a1, ⟨H3, H4, b1, b2, b3, b4⟩, a3, a4⟩, h2, h3⟩ := h
  have hgood : Good (star Y R) := hY.star hR
  refine ⟨H1, H3, a1, fun b hb => h2 b ((a3 b).2 (.inl hb)), b1, fun b hb hf => a4 b hf ((b3 b).2 (.inl hb)), fun w' F' X' hX hE => ?_⟩
  refine ⟨fun b => F' b ∨ H2 b, ⟨F', H2, hX, ?_, fun b => Iff.rfl, fun b hb hc => ?_⟩, fun b hb => ?_, ?_⟩
  · exact hgood.keep ⟨H3, H4, b1, b2, b3, b4⟩ hE.mod.size (fun b hb => hE.mod.block b (hgood.lt ⟨H3, H4, b1, b2, b3, b4⟩ b hb) (fun hf => a4 b hf hb))
  · rcases hE.new b hb with h | h
    · exact a4 b h hc
    · have := hgood.lt ⟨H3, H4, b1, b2, b3, b4⟩ b hc; omega
  · rcases hb with hb | hb
    · rcases hE.new b hb with h | h
      · exact h2 b ((a3 b).2 (.inl h))
      · have := h3.size; omega
    · exact h2 b ((a3 b).2 (.inr hb))
  · refine h3.trans ?_
    refine ⟨hE.mod.os, hE.mod.tape, hE.mod.output, hE.mod.size, fun b hb => hE.mod.block b (Nat.lt_of_lt_of_le hb h3.size) (fun hf => ?_)⟩
    have := h2 b ((a3 b).2 (.inl hf)); omega
/-- one cell of the first part is set -/
theorem Sys.cellSet {X' : Asn} {g j : Nat} {u : Value} (h : Sys w wr (star X R)) (hR : Good R) (hX : ∀ H, X wr H → H g ∧ X' (wr.setCell ⟨g, j, none⟩ u) H) : Sys w (wr.setCell ⟨g, j, none⟩ u) (star X' R) := by
  obtain ⟨F, h1, h2, h3⟩ := h.call hR
  exact h3 _ F X' (hX F h1).2 ⟨(Mod.refl _ _).setCell (.inl (hX F h1).1) _, fun _ h => .inl h⟩
end
section
variable {w wr : World} {R : Asn}
theorem Sys.swap3 {A B C E : Asn} (h : Sys w wr (star A (star B (star C (star E R))))) : Sys w wr (star A (star B (star E (star C R)))) := h.mono (fun _ _ => star_mono (fun _ _ => star_mono (fun _ _ => star_swap)))
theorem Sys.start (w : World) : Sys w w emp := ⟨fun _ => False, fun _ h => h, fun _ h => h.elim, Below.refl _ _⟩
end
theorem star_fst2 {A B C : Asn} (h : ∀ W H, A W H → B W H) {W : World} {H : Nat → Prop} (hh : star A C W H) : star B C W H := star_comm (star_mono h (star_comm hh))
theorem ownsRow_lt {w : World} {base e size n : Nat} {v : Value} {xs : List Value} (h : w.ownsRow base e size v n xs) {b : Nat} (hb : v.ownBlock = some b) : b < w.heap.size := (World.ownsRow.lt h b hb).2
theorem ownsRow_keep {w w' : World} {base e size n : Nat} {v : Value} {xs : List Value} (h : w.ownsRow base e size v n xs) (hk : ∀ b, v.ownBlock = some b → w'.heap[b]? = w.heap[b]?) : w'.ownsRow base e size v n xs := by
  obtain ⟨hl, ⟨rfl, h0⟩ | ⟨g, cap, cur, rfl, hb, hg, r⟩⟩ := h
  · exact ⟨hl, .inl ⟨rfl, h0⟩⟩
  · exact ⟨hl, .inr ⟨g, cap, cur, rfl, hb, by rw [hk g rfl]; exact hg, r⟩⟩
section
variable {P : Program} {ops : Array Oper} {Q : Exit → Act → World → Prop} {S : World → Prop} {fuel : Nat} {listed : Array Bool} {a : Act} {w : World}
/-- the two operations that may come up -/
theorem hd_both (i j : Nat) {o1 o2 : Oper} (hr : Region.ready .any ops listed = [i, j]) (ho1 : ops[i]? = some o1) (ho2 : ops[j]? = some o2) (hw1 : Region.wanted o1 (yielded ops a.tmps) = true) (hw2 : Region.wanted o2 (yielded ops a.tmps) = true)
    (h1 : ∀ K : Act → World → Prop, (∀ a w, S w → wpAnyH P .any ops Q S fuel (listed.setIfInBounds i true) a w → K a w) → Oper.wp P o1 a w K Q)
    (h2 : ∀ K : Act → World → Prop, (∀ a w, S w → wpAnyH P .any ops Q S fuel (listed.setIfInBounds j true) a w → K a w) → Oper.wp P o2 a w K Q) : wpAnyH P .any ops Q S (fuel + 1) listed a w := by
  refine wpAnyH_ready hr (by simp) (AllReadyH.cons ho1 (fun K hK => ?_) (AllReadyH.cons ho2 (fun K hK => ?_) AllReadyH.nil))
  · rw [if_pos hw1]; exact h1 K (fun a w hS hh => hK.out a w hS (fun _ => hh))
  · rw [if_pos hw2]; exact h2 K (fun a w hS hh => hK.out a w hS (fun _ => hh))
end
theorem cell_belowN {w w' : World} (hb : Below w.heap.size w w') {p : Addr} {v : Value} (h : w.cell? p = some v) : w'.cell? p = some v := by
  have hl : p.block < w.heap.size := by
    unfold World.cell? at h
    cases hq : w.heap[p.block]? with
    | none => simp [hq] at h
    | some o => exact (Array.getElem?_eq_some_iff.1 hq).1
  have := hb.block p.block hl
  unfold World.cell? at h ⊢
  rw [this]; exact h
end Go.Proofs.YtbocpmcodlceoaaGreat

namespace Go.Proofs.YtbocpmcodlceoaaGreat
open Go.RowKit

abbrev tp (T : Nat) : Value := .pointer (some ⟨T, 0, none⟩)
/-- a row of the document's table: a number and what is told of it -/
abbrev Rw := Nat × Er
def encW1 (x : Rw) : List Value := [.int .i64 (x.1 : Int), .int .i64 x.2.se, .int .i64 x.2.pa, .int .i64 x.2.st, .int .i64 x.2.co, .int .i64 x.2.bi, .bool x.2.fz, .int .u32 (x.2.rg 0 : Nat), .int .u32 (x.2.rg 1 : Nat), .int .u32 (x.2.rg 2 : Nat), .int .u32 (x.2.rg 3 : Nat), .int .u32 (x.2.rg 4 : Nat), .int .u32 (x.2.rg 5 : Nat), .int .u32 (x.2.rg 6 : Nat), .int .u32 (x.2.rg 7 : Nat), .int .u32 (x.2.pc : Nat), .int .i64 x.2.qu.f, .int .i64 x.2.qu.e, .int .i64 x.2.qu.x, .int .i64 0, .int .i64 0, .int .i64 0, .int .i64 x.2.pd.f, .int .i64 x.2.pd.e, .int .i64 x.2.pd.x]
def encW (K : List Rw) : List Value := K.flatMap encW1
theorem encW1_len (x : Rw) : (encW1 x).length = 25 := rfl
theorem encW_len (K : List Rw) : (encW K).length = K.length * 25 := by
  induction K with
  | nil => rfl
  | cons a t ih => simp only [encW, List.flatMap_cons, List.length_append, List.length_cons] at ih ⊢; rw [ih, encW1_len]; omega
theorem encW_at : ∀ (K : List Rw) (i j : Nat) (x : Rw) (v : Value), K[i]? = some x → (encW1 x)[j]? = some v → (encW K)[i * 25 + j]? = some v
  | [], i, j, x, v, h, _ => by simp at h
  | y :: r, 0, j, x, v, h1, h2 => by
    simp at h1; subst h1
    have hj : j < 25 := by have := (List.getElem?_eq_some_iff.1 h2).1; rwa [encW1_len] at this
    show (encW1 y ++ encW r)[0 * 25 + j]? = _
    rw [List.getElem?_append_left (by rw [encW1_len]; omega), ← h2]; congr 1; omega
  | y :: r, i + 1, j, x, v, h1, h2 => by
    show (encW1 y ++ encW r)[(i + 1) * 25 + j]? = _
    rw [List.getElem?_append_right (by rw [encW1_len]; omega), ← encW_at r i j x v (by simpa using h1) h2]
    congr 1; rw [encW1_len]; omega
theorem encW_app (K L : List Rw) : encW (K ++ L) = encW K ++ encW L := by simp [encW]
structure RtAt (w : World) (R : Nat) (v : Value) (K : List Rw) (last : Int) : Prop where
  top : w.heap[R]? = some (.cells #[v, .int .i64 last] 83 (0, 0))
  row : w.ownsRow 0 85 25 v K.length (encW K)
  ne : v.ownBlock ≠ some R
/-- the rows are those of the program's table, by serial -/
structure Ag (rs : List (Option Er)) (K : List Rw) : Prop where
  srt : K.Pairwise (fun a b => a.2.se < b.2.se)
  mem : ∀ (i : Nat) (e : Er), (i, e) ∈ K ↔ rs[i]? = some (some e)
/-- the document's table at block R -/
def RtA (R : Nat) (rs : List (Option Er)) (last : Int) : Asn := fun w F => ∃ v K, RtAt w R v K last ∧ Ag rs K ∧ ∀ b, F b ↔ b = R ∨ v.ownBlock = some b
theorem RtAt.keep {w w' : World} {R : Nat} {v : Value} {K : List Rw} {last : Int} (h : RtAt w R v K last) (hk : ∀ b, b = R ∨ v.ownBlock = some b → w'.heap[b]? = w.heap[b]?) : RtAt w' R v K last :=
  ⟨by rw [hk R (.inl rfl)]; exact h.top, ownsRow_keep h.row (fun b hb => hk b (.inr hb)), h.ne⟩
theorem good_rt (R : Nat) (rs : List (Option Er)) (last : Int) : Good (RtA R rs last) := by
  refine ⟨?_, ?_⟩
  · rintro W H ⟨v, K, h, _, he⟩ b hb
    rcases (he b).1 hb with rfl | e
    · exact (Array.getElem?_eq_some_iff.1 h.top).1
    · exact ownsRow_lt h.row e
  · rintro W W' H ⟨v, K, h, ha, he⟩ hs hk
    exact ⟨v, K, h.keep (fun b hb => hk b ((he b).2 hb)), ha, he⟩
section
variable {w : World} {R : Nat} {v : Value} {K : List Rw} {last : Int} {rs : List (Option Er)}
theorem RtAt.lt (h : RtAt w R v K last) : R < w.heap.size := (Array.getElem?_eq_some_iff.1 h.top).1
theorem RtAt.rowc (h : RtAt w R v K last) : w.cell? ⟨R, 0, none⟩ = some v := by rw [cell_of_row _ _ _ _ _ _ h.top]; rfl
theorem RtAt.lastc (h : RtAt w R v K last) : w.cell? ⟨R, 1, none⟩ = some (.int .i64 last) := by rw [cell_of_row _ _ _ _ _ _ h.top]; rfl
theorem RtAt.frz (h : RtAt w R v K last) (j : Nat) : w.frozen? ⟨R, j, none⟩ = false := frozen_of_row _ _ _ _ _ h.top
theorem RtAt.below {w' : World} (h : RtAt w R v K last) (hb : Below w.heap.size w w') : RtAt w' R v K last :=
  h.keep (fun b hb' => hb.block b (hb'.elim (fun e => by rw [e]; exact h.lt) (fun e => ownsRow_lt h.row e)))
theorem RtAt.shape (h : RtAt w R v K last) : ∃ a c, v = .slice a K.length c := own_shape h.row
/-- a row's cells -/
theorem RtAt.at (h : RtAt w R v K last) {i : Nat} {x : Rw} (hx : K[i]? = some x) : ∃ g c, v = .slice (some ⟨g, 0, none⟩) K.length c ∧ ∀ j u, (encW1 x)[j]? = some u → w.cell? ⟨g, i * 25 + j, none⟩ = some u := by
  have hil := (List.getElem?_eq_some_iff.1 hx).1
  obtain ⟨_, ⟨_, h0⟩ | ⟨g, cp, cur, hv, _⟩⟩ := h.row
  · omega
  · have hrow := h.row
    rw [hv] at hrow
    refine ⟨g, cp, hv, fun j u hj => ?_⟩
    have := World.ownsRow.cells hrow rfl _ _ (encW_at K i j x u hx hj)
    rw [add0] at this; exact this
set_option maxRecDepth 100000 in
set_option maxHeartbeats 3200000 in
/-- where a number stands in the list -/
theorem at_any (h : RtAt w R v K last) (hl : K.length ≤ 4000) (e : Int) : Calls Tryz.prog 59 #[tp R, .int .i64 e] w fun x w' => w' = w ∧ ((∃ (i : Nat) (y : Rw), x = .returned (.int .i64 (i : Int)) ∧ K[i]? = some y ∧ e = (y.1 : Int)) ∨ (x = .returned (.int .i64 (-1)) ∧ ∀ y ∈ K, e ≠ (y.1 : Int))) := by
  have HR := hide h
  obtain ⟨a, c, hv⟩ := h.shape
  obtain ⟨L, hL⟩ : ∃ L, K.length = L := ⟨_, rfl⟩
  rw [hL] at hv hl
  have HL := hide hL
  subst hv
  have c16 := h.rowc
  clear h hL
  go_enter Tryz.func59, Tryz.ntmps59
  go_wp2
  go_loopw [5] (fun x wr => ∃ k : Nat, k ≤ L ∧ x = .int .i64 (k : Int) ∧ Hid (∀ j y, j < k → K[j]? = some y → e ≠ (y.1 : Int)) ∧ wr = w) (fun x _ => L - (intOf x).toNat)
  case atStart => exact ⟨0, by omega, rfl, hide (fun j y hj => by omega), by first | rfl | trivial⟩
  case round =>
  obtain ⟨k, hk, rfl, KK, hw⟩ := hrel
  subst hw
  by_cases hlt : k < L
  · have hd : decide ((k : Int) < (L : Int)) = true := by simp; omega
    have hki : (k : Int) < (L : Int) := by omega
    obtain ⟨⟨ya, yr⟩, hy⟩ : ∃ y, K[k]? = some y := ⟨_, List.getElem?_eq_getElem (by rw [HL.out]; exact hlt)⟩
    obtain ⟨g, c', hv, hrow⟩ := HR.out.at hy
    rw [HL.out] at hv
    cases hv
    have r0 : wr.cell? ⟨g, k * 25, none⟩ = some (.int .i64 (ya : Int)) := hrow 0 _ rfl
    have HY := hide hy
    clear hrow hy
    by_cases he : (ya : Int) = e
    · have he1 : ((ya : Int) == e) = true := by simp [he]
      have HE := hide he.symm
      clear he
      go_wp2
      go_ret
      exact ⟨rfl, .inl ⟨k, _, rfl, HY.out, HE.out⟩⟩
    · have he1 : ((ya : Int) == e) = false := by rw [beq_eq_false_iff_ne]; exact he
      have HN : Hid (∀ j y, j < k + 1 → K[j]? = some y → e ≠ (y.1 : Int)) := hide (fun j y hj hy => by
        by_cases e1 : j = k
        · subst e1; rw [HY.out] at hy; cases hy; exact fun h => he h.symm
        · exact KK.out j y (by omega) hy)
      clear he
      go_wp2
      go_roundw
      case rel => first | exact ⟨k + 1, by omega, by go_num, HN, by first | trivial | rfl⟩ | ((repeat apply Exists.intro); refine ⟨?_, rfl⟩; exact ⟨k + 1, by omega, by go_num, HN, by first | trivial | rfl⟩)
      case measure => simp [intOf]; omega
  · obtain rfl : k = L := by omega
    have hd : decide ((k : Int) < (k : Int)) = false := by simp
    go_wp2
    go_ret
    refine ⟨rfl, .inr ⟨rfl, fun y hy => ?_⟩⟩
    obtain ⟨j, hj⟩ := List.getElem?_of_mem hy
    exact KK.out j y (by rw [← HL.out]; exact (List.getElem?_eq_some_iff.1 hj).1) hj
end
end Go.Proofs.YtbocpmcodlceoaaGreat

namespace Go.Proofs.YtbocpmcodlceoaaGreat
open Go.RowKit

theorem partD_any (w : World) (n : Int) : Calls Tryz.prog 58 #[.int .i64 n] w fun e w' => e = .returned (.int .i64 (pt n)) ∧ w' = w := by
  by_cases h1 : n < 0
  · have e : pt n = 0 := by unfold pt; rw [if_pos h1]
    have h2 : ¬ (4611686018427387903 : Int) < 0 := by omega
    rw [e]
    go_enter Tryz.func58, Tryz.ntmps58
    go_wp2
    go_ret
    exact ⟨rfl, rfl⟩
  · by_cases h2 : 4611686018427387903 < n
    · have e : pt n = 4611686018427387903 := by unfold pt; rw [if_neg h1, if_pos h2]
      rw [e]
      go_enter Tryz.func58, Tryz.ntmps58
      go_wp2
      go_ret
      exact ⟨rfl, rfl⟩
    · have e : pt n = n := by unfold pt; rw [if_neg h1, if_neg h2]
      rw [e]
      go_enter Tryz.func58, Tryz.ntmps58
      go_wp2
      go_ret
      exact ⟨rfl, rfl⟩
set_option maxHeartbeats 1600000 in
theorem plusD_any (w : World) (p q : Qt) (hp : p.ok) (hq : q.ok) : Calls Tryz.prog 69 #[p.val, q.val] w fun e w' => e = .returned (p.plus q).val ∧ Below w.heap.size w w' := by
  obtain ⟨⟨h1, h2⟩, ⟨h3, h4⟩, ⟨h5, h6⟩⟩ := hp
  obtain ⟨⟨k1, k2⟩, ⟨k3, k4⟩, ⟨k5, k6⟩⟩ := hq
  have hb1 := (Below.refl w.heap.size w).alloc (Nat.le_refl _) (.cells #[.int .i64 p.f, .int .i64 p.e, .int .i64 p.x] 30)
  have hb2 := hb1.alloc hb1.size (.cells #[.int .i64 q.f, .int .i64 q.e, .int .i64 q.x] 30)
  have hb3 := hb2.alloc hb2.size (.cells #[.int .i64 0, .int .i64 0, .int .i64 0] 30)
  have a1 := heap_alloc_new w (.cells #[.int .i64 p.f, .int .i64 p.e, .int .i64 p.x] 30)
  have a2 := heap_alloc_new (w.alloc (.cells #[.int .i64 p.f, .int .i64 p.e, .int .i64 p.x] 30)) (.cells #[.int .i64 q.f, .int .i64 q.e, .int .i64 q.x] 30)
  have a3 := heap_alloc_new ((w.alloc (.cells #[.int .i64 p.f, .int .i64 p.e, .int .i64 p.x] 30)).alloc (.cells #[.int .i64 q.f, .int .i64 q.e, .int .i64 q.x] 30)) (.cells #[.int .i64 0, .int .i64 0, .int .i64 0] 30)
  have e2 : (w.alloc (.cells #[.int .i64 p.f, .int .i64 p.e, .int .i64 p.x] 30)).heap.size = w.heap.size + 1 := by simp
  have e3 : ((w.alloc (.cells #[.int .i64 p.f, .int .i64 p.e, .int .i64 p.x] 30)).alloc (.cells #[.int .i64 q.f, .int .i64 q.e, .int .i64 q.x] 30)).heap.size = w.heap.size + 2 := by simp
  have b1 := (Below.heap_alloc _ (.cells #[.int .i64 0, .int .i64 0, .int .i64 0] 30) w.heap.size (by rw [e3]; omega)).trans ((Below.heap_alloc _ (.cells #[.int .i64 q.f, .int .i64 q.e, .int .i64 q.x] 30) w.heap.size (by rw [e2]; omega)).trans a1)
  rw [e2] at a2
  have b2 := (Below.heap_alloc _ (.cells #[.int .i64 0, .int .i64 0, .int .i64 0] 30) (w.heap.size + 1) (by rw [e3]; omega)).trans a2
  rw [e3] at a3
  have HB3 := hide hb3
  clear hb1 hb2 hb3 a1 a2 e2 e3
  unfold Qt.val
  go_enter Tryz.func69, Tryz.ntmps69
  go_upto_region 1 with fail
  generalize ((w.alloc (.cells #[.int .i64 p.f, .int .i64 p.e, .int .i64 p.x] 30)).alloc (.cells #[.int .i64 q.f, .int .i64 q.e, .int .i64 q.x] 30)).alloc (.cells #[.int .i64 0, .int .i64 0, .int .i64 0] 30) = w3 at *
  obtain ⟨c0, c1, c2, -, -, -⟩ := blk3 b1
  obtain ⟨d0, d1, d2, -, -, -⟩ := blk3 b2
  obtain ⟨r0, r1, r2, f0, f1, f2⟩ := blk3 a3
  have HS := hide (fun a b c => set3 a3 a b c)
  clear b1 b2 a3
  go_wp2
  refine bodyPost_ret (results_row1 rfl _ _ (w.heap.size + 2) 30 #[.int .i64 (p.f + q.f), .int .i64 (p.e + q.e), .int .i64 (p.x + q.x)] (0, 0) _ rfl (HS.out _ _ _) Tryz.underlying30 rfl (by kernel_rfl)) rfl ?_
  exact ⟨rfl, below3 HB3.out (by omega) _ _ _⟩
set_option maxHeartbeats 1600000 in
theorem lessD_any (w : World) (p q : Qt) (hp : p.ok) (hq : q.ok) : Calls Tryz.prog 71 #[p.val, q.val] w fun e w' => e = .returned (p.less q).val ∧ Below w.heap.size w w' := by
  obtain ⟨⟨h1, h2⟩, ⟨h3, h4⟩, ⟨h5, h6⟩⟩ := hp
  obtain ⟨⟨k1, k2⟩, ⟨k3, k4⟩, ⟨k5, k6⟩⟩ := hq
  have hb1 := (Below.refl w.heap.size w).alloc (Nat.le_refl _) (.cells #[.int .i64 p.f, .int .i64 p.e, .int .i64 p.x] 30)
  have hb2 := hb1.alloc hb1.size (.cells #[.int .i64 q.f, .int .i64 q.e, .int .i64 q.x] 30)
  have hb3 := hb2.alloc hb2.size (.cells #[.int .i64 0, .int .i64 0, .int .i64 0] 30)
  have a1 := heap_alloc_new w (.cells #[.int .i64 p.f, .int .i64 p.e, .int .i64 p.x] 30)
  have a2 := heap_alloc_new (w.alloc (.cells #[.int .i64 p.f, .int .i64 p.e, .int .i64 p.x] 30)) (.cells #[.int .i64 q.f, .int .i64 q.e, .int .i64 q.x] 30)
  have a3 := heap_alloc_new ((w.alloc (.cells #[.int .i64 p.f, .int .i64 p.e, .int .i64 p.x] 30)).alloc (.cells #[.int .i64 q.f, .int .i64 q.e, .int .i64 q.x] 30)) (.cells #[.int .i64 0, .int .i64 0, .int .i64 0] 30)
  have e2 : (w.alloc (.cells #[.int .i64 p.f, .int .i64 p.e, .int .i64 p.x] 30)).heap.size = w.heap.size + 1 := by simp
  have e3 : ((w.alloc (.cells #[.int .i64 p.f, .int .i64 p.e, .int .i64 p.x] 30)).alloc (.cells #[.int .i64 q.f, .int .i64 q.e, .int .i64 q.x] 30)).heap.size = w.heap.size + 2 := by simp
  have b1 := (Below.heap_alloc _ (.cells #[.int .i64 0, .int .i64 0, .int .i64 0] 30) w.heap.size (by rw [e3]; omega)).trans ((Below.heap_alloc _ (.cells #[.int .i64 q.f, .int .i64 q.e, .int .i64 q.x] 30) w.heap.size (by rw [e2]; omega)).trans a1)
  rw [e2] at a2
  have b2 := (Below.heap_alloc _ (.cells #[.int .i64 0, .int .i64 0, .int .i64 0] 30) (w.heap.size + 1) (by rw [e3]; omega)).trans a2
  rw [e3] at a3
  have HB3 := hide hb3
  clear hb1 hb2 hb3 a1 a2 e2 e3
  unfold Qt.val
  go_enter Tryz.func71, Tryz.ntmps71
  go_upto_region 1 with fail
  generalize ((w.alloc (.cells #[.int .i64 p.f, .int .i64 p.e, .int .i64 p.x] 30)).alloc (.cells #[.int .i64 q.f, .int .i64 q.e, .int .i64 q.x] 30)).alloc (.cells #[.int .i64 0, .int .i64 0, .int .i64 0] 30) = w3 at *
  obtain ⟨c0, c1, c2, -, -, -⟩ := blk3 b1
  obtain ⟨d0, d1, d2, -, -, -⟩ := blk3 b2
  obtain ⟨r0, r1, r2, f0, f1, f2⟩ := blk3 a3
  have HS := hide (fun a b c => set3 a3 a b c)
  clear b1 b2 a3
  go_wp2
  refine bodyPost_ret (results_row1 rfl _ _ (w.heap.size + 2) 30 #[.int .i64 (p.f - q.f), .int .i64 (p.e - q.e), .int .i64 (p.x - q.x)] (0, 0) _ rfl (HS.out _ _ _) Tryz.underlying30 rfl (by kernel_rfl)) rfl ?_
  exact ⟨rfl, below3 HB3.out (by omega) _ _ _⟩
set_option maxHeartbeats 1600000 in
theorem fitsD_any (w : World) (p q : Qt) : Calls Tryz.prog 62 #[p.val, q.val] w fun e w' => e = .returned (.bool (decide (p.le q))) ∧ Below w.heap.size w w' := by
  obtain ⟨bb, hbb⟩ : ∃ bb, decide (p.le q) = bb := ⟨_, rfl⟩
  rw [hbb]
  have HD := hide hbb
  clear hbb
  have hb1 := (Below.refl w.heap.size w).alloc (Nat.le_refl _) (.cells #[.int .i64 p.f, .int .i64 p.e, .int .i64 p.x] 30)
  have hb2 := hb1.alloc hb1.size (.cells #[.int .i64 q.f, .int .i64 q.e, .int .i64 q.x] 30)
  have a1 := heap_alloc_new w (.cells #[.int .i64 p.f, .int .i64 p.e, .int .i64 p.x] 30)
  have a2 := heap_alloc_new (w.alloc (.cells #[.int .i64 p.f, .int .i64 p.e, .int .i64 p.x] 30)) (.cells #[.int .i64 q.f, .int .i64 q.e, .int .i64 q.x] 30)
  have e2 : (w.alloc (.cells #[.int .i64 p.f, .int .i64 p.e, .int .i64 p.x] 30)).heap.size = w.heap.size + 1 := by simp
  have b1 := (Below.heap_alloc _ (.cells #[.int .i64 q.f, .int .i64 q.e, .int .i64 q.x] 30) w.heap.size (by rw [e2]; omega)).trans a1
  rw [e2] at a2
  have HB2 := hide hb2
  clear hb1 hb2 a1 e2
  unfold Qt.val
  go_enter Tryz.func62, Tryz.ntmps62
  go_upto_region 1 with fail
  generalize (w.alloc (.cells #[.int .i64 p.f, .int .i64 p.e, .int .i64 p.x] 30)).alloc (.cells #[.int .i64 q.f, .int .i64 q.e, .int .i64 q.x] 30) = w3 at *
  obtain ⟨c0, c1, c2, -, -, -⟩ := blk3 b1
  obtain ⟨d0, d1, d2, -, -, -⟩ := blk3 a2
  clear b1 a2
  by_cases h1 : p.f ≤ q.f
  · by_cases h2 : p.e ≤ q.e
    · by_cases h3 : p.x ≤ q.x
      · have hd : decide (p.le q) = true := by simp [Qt.le, h1, h2, h3]
        rw [HD.out] at hd
        subst hd
        go_wp2
        go_ret
        exact ⟨rfl, HB2.out⟩
      · have hd : decide (p.le q) = false := by simp [Qt.le, h3]
        rw [HD.out] at hd
        subst hd
        go_wp2
        go_ret
        exact ⟨rfl, HB2.out⟩
    · have hd : decide (p.le q) = false := by simp [Qt.le, h2]
      rw [HD.out] at hd
      subst hd
      go_wp2
      go_ret
      exact ⟨rfl, HB2.out⟩
  · have hd : decide (p.le q) = false := by simp [Qt.le, h1]
    rw [HD.out] at hd
    subst hd
    go_wp2
    go_ret
    exact ⟨rfl, HB2.out⟩
theorem pt_iff (n : Int) : pt n = n ↔ 0 ≤ n ∧ n ≤ 4611686018427387903 := by
  unfold pt
  split
  · omega
  · split <;> omega
set_option maxHeartbeats 3200000 in
theorem goodD_any (w : World) (q : Qt) : Calls Tryz.prog 60 #[q.val] w fun e w' => e = .returned (.bool (decide q.good)) ∧ Below w.heap.size w w' := by
  have a1 := heap_alloc_new w (.cells #[.int .i64 q.f, .int .i64 q.e, .int .i64 q.x] 30)
  have hb1 := (Below.refl w.heap.size w).alloc (Nat.le_refl _) (.cells #[.int .i64 q.f, .int .i64 q.e, .int .i64 q.x] 30)
  have HB := hide hb1
  obtain ⟨v, hv⟩ : ∃ v, decide q.good = v := ⟨_, rfl⟩
  rw [hv]
  have HV := hide hv
  clear hv hb1
  unfold Qt.val
  go_enter Tryz.func60, Tryz.ntmps60
  go_upto_region 1 with fail
  generalize w.alloc (.cells #[.int .i64 q.f, .int .i64 q.e, .int .i64 q.x] 30) = w1 at *
  obtain ⟨c0, c1, c2, -, -, -⟩ := blk3 a1
  clear a1
  by_cases p1 : q.f < 0
  · have p1' : decide (q.f < 0) = true := by simp [p1]
    have hv : decide q.good = false := by rw [decide_eq_false_iff_not]; show ¬ (pt q.f = q.f ∧ pt q.e = q.e ∧ pt q.x = q.x); rw [pt_iff, pt_iff, pt_iff]; omega
    have HE := hide (HV.out.symm.trans hv)
    clear hv HV
    go_wp2
    go_ret
    exact ⟨by rw [HE.out]; rfl, HB.out⟩
  · have p1' : decide (q.f < 0) = false := by simp; omega
    by_cases p2 : q.e < 0
    · have p2' : decide (q.e < 0) = true := by simp [p2]
      have hv : decide q.good = false := by rw [decide_eq_false_iff_not]; show ¬ (pt q.f = q.f ∧ pt q.e = q.e ∧ pt q.x = q.x); rw [pt_iff, pt_iff, pt_iff]; omega
      have HE := hide (HV.out.symm.trans hv)
      clear hv HV
      go_wp2
      go_ret
      exact ⟨by rw [HE.out]; rfl, HB.out⟩
    · have p2' : decide (q.e < 0) = false := by simp; omega
      by_cases p3 : q.x < 0
      · have p3' : decide (q.x < 0) = true := by simp [p3]
        have hv : decide q.good = false := by rw [decide_eq_false_iff_not]; show ¬ (pt q.f = q.f ∧ pt q.e = q.e ∧ pt q.x = q.x); rw [pt_iff, pt_iff, pt_iff]; omega
        have HE := hide (HV.out.symm.trans hv)
        clear hv HV
        go_wp2
        go_ret
        exact ⟨by rw [HE.out]; rfl, HB.out⟩
      · have p3' : decide (q.x < 0) = false := by simp; omega
        by_cases u0 : q.f ≤ 4611686018427387903
        · have u0' : decide (q.f ≤ 4611686018427387903) = true := by simp; exact u0
          by_cases u1 : q.e ≤ 4611686018427387903
          · have u1' : decide (q.e ≤ 4611686018427387903) = true := by simp; exact u1
            by_cases u2 : q.x ≤ 4611686018427387903
            · have u2' : decide (q.x ≤ 4611686018427387903) = true := by simp; exact u2
              have hv : decide q.good = true := by rw [decide_eq_true_eq]; show pt q.f = q.f ∧ pt q.e = q.e ∧ pt q.x = q.x; rw [pt_iff, pt_iff, pt_iff]; omega
              have HE := hide (HV.out.symm.trans hv)
              clear hv HV
              go_wp2
              go_ret
              exact ⟨by rw [HE.out]; rfl, HB.out⟩
            · have u2' : decide (q.x ≤ 4611686018427387903) = false := by simp; omega
              have hv : decide q.good = false := by rw [decide_eq_false_iff_not]; show ¬ (pt q.f = q.f ∧ pt q.e = q.e ∧ pt q.x = q.x); rw [pt_iff, pt_iff, pt_iff]; omega
              have HE := hide (HV.out.symm.trans hv)
              clear hv HV
              go_wp2
              go_ret
              exact ⟨by rw [HE.out]; rfl, HB.out⟩
          · have u1' : decide (q.e ≤ 4611686018427387903) = false := by simp; omega
            have hv : decide q.good = false := by rw [decide_eq_false_iff_not]; show ¬ (pt q.f = q.f ∧ pt q.e = q.e ∧ pt q.x = q.x); rw [pt_iff, pt_iff, pt_iff]; omega
            have HE := hide (HV.out.symm.trans hv)
            clear hv HV
            go_wp2
            go_ret
            exact ⟨by rw [HE.out]; rfl, HB.out⟩
        · have u0' : decide (q.f ≤ 4611686018427387903) = false := by simp; omega
          have hv : decide q.good = false := by rw [decide_eq_false_iff_not]; show ¬ (pt q.f = q.f ∧ pt q.e = q.e ∧ pt q.x = q.x); rw [pt_iff, pt_iff, pt_iff]; omega
          have HE := hide (HV.out.symm.trans hv)
          clear hv HV
          go_wp2
          go_ret
          exact ⟨by rw [HE.out]; rfl, HB.out⟩
end Go.Proofs.YtbocpmcodlceoaaGreat

namespace Go.Proofs.YtbocpmcodlceoaaGreat
open Go.RowKit

section
variable {w : World} {R : Nat} {v : Value} {K : List Rw} {last : Int} {rs : List (Option Er)}
theorem Ag.nodup (h : Ag rs K) : (K.map (·.1)).Nodup := by
  rw [List.Nodup, List.pairwise_map]
  refine List.pairwise_iff_getElem.2 (fun i j hi hj hij e => ?_)
  have hlt := List.pairwise_iff_getElem.1 h.srt i j hi hj hij
  have h1 := (h.mem (K[i].1) (K[i].2)).1 (List.getElem_mem hi)
  have h2 := (h.mem (K[j].1) (K[j].2)).1 (List.getElem_mem hj)
  rw [e, h2] at h1
  simp only [Option.some.injEq] at h1
  rw [h1] at hlt
  exact absurd hlt (Int.lt_irrefl _)
theorem nodup_lt : ∀ (n : Nat) (l : List Nat), l.Nodup → (∀ x ∈ l, x < n) → l.length ≤ n
  | 0, l, _, h => by
    cases l with
    | nil => simp
    | cons a t => exact absurd (h a (List.mem_cons_self ..)) (by omega)
  | n + 1, l, hn, h => by
    have h1 := nodup_lt n (l.filter (fun x => decide (x ≠ n))) (hn.filter _) (fun x hx => by
      rw [List.mem_filter] at hx
      have := h x hx.1
      have h2 := of_decide_eq_true hx.2
      omega)
    have h2 : (l.filter (fun x => decide (x = n))).length ≤ 1 := by
      have hnd : (l.filter (fun x => decide (x = n))).Nodup := hn.filter _
      match hm : l.filter (fun x => decide (x = n)), hnd with
      | [], _ => simp
      | [a], _ => simp
      | a :: b :: t, hnd =>
        exfalso
        have ha : a = n := by
          have : a ∈ l.filter (fun x => decide (x = n)) := by rw [hm]; simp
          exact of_decide_eq_true (List.mem_filter.1 this).2
        have hb : b = n := by
          have : b ∈ l.filter (fun x => decide (x = n)) := by rw [hm]; simp
          exact of_decide_eq_true (List.mem_filter.1 this).2
        rw [ha, hb] at hnd
        simp at hnd
    have h3 : l.length = (l.filter (fun x => decide (x = n))).length + (l.filter (fun x => decide (x ≠ n))).length := by
      clear h h1 h2 hn
      induction l with
      | nil => rfl
      | cons a t ih =>
        by_cases e : a = n
        · simp [e]; simp at ih; omega
        · simp [e]; simp at ih; omega
    omega
theorem Ag.len (h : Ag rs K) (hl : rs.length = 16) : K.length ≤ 16 := by
  have := nodup_lt 16 (K.map (·.1)) h.nodup (fun x hx => by
    obtain ⟨y, hy, rfl⟩ := List.mem_map.1 hx
    have h1 := (List.getElem?_eq_some_iff.1 ((h.mem y.1 y.2).1 hy)).1
    omega)
  simpa using this
/-- where a number stands, by the program's table -/
theorem atb_any (h : RtAt w R v K last) (ha : Ag rs K) (hl : rs.length = 16) (e : Int) : Calls Tryz.prog 59 #[tp R, .int .i64 e] w fun x w' => w' = w ∧ ((∃ (i n : Nat) (r : Er), x = .returned (.int .i64 (i : Int)) ∧ K[i]? = some (n, r) ∧ e = (n : Int) ∧ rs[n]? = some (some r)) ∨ (x = .returned (.int .i64 (-1)) ∧ ∀ (n : Nat) (r : Er), e = (n : Int) → rs[n]? ≠ some (some r))) := by
  refine (at_any h (by have := ha.len hl; omega) e).mono ?_
  rintro x w' ⟨rfl, ⟨i, ⟨n, r⟩, rfl, hi, he⟩ | ⟨rfl, hn⟩⟩
  · exact ⟨rfl, .inl ⟨i, n, r, rfl, hi, he, (ha.mem n r).1 (List.mem_of_getElem? hi)⟩⟩
  · exact ⟨rfl, .inr ⟨rfl, fun n r he hr => hn (n, r) ((ha.mem n r).2 hr) he⟩⟩
set_option maxHeartbeats 3200000 in
/-- the lowest number that no living one has -/
theorem freeD_any (h : RtAt w R v K last) (ha : Ag rs K) (hl : rs.length = 16) : Calls Tryz.prog 63 #[tp R] w fun x w' => w' = w ∧ ((∃ k : Nat, k < 16 ∧ x = .returned (.int .i64 (k : Int)) ∧ rs[k]? = some none ∧ ∀ j : Nat, j < k → ∃ r, rs[j]? = some (some r)) ∨ (x = .returned (.int .i64 (-1)) ∧ ∀ j : Nat, j < 16 → ∃ r, rs[j]? = some (some r))) := by
  have HAt := hide (fun e => atb_any h ha hl e)
  have Hl := hide hl
  clear h ha hl
  go_enter Tryz.func63, Tryz.ntmps63
  go_wp2
  go_loopw [3] (fun x wr => ∃ k : Nat, k ≤ 16 ∧ x = .int .i64 (k : Int) ∧ Hid (∀ j : Nat, j < k → ∃ r, rs[j]? = some (some r)) ∧ wr = w) (fun x _ => 16 - (intOf x).toNat)
  case atStart => exact ⟨0, by omega, rfl, hide (fun j hj => by omega), by first | rfl | trivial⟩
  case round =>
  obtain ⟨k, hk, rfl, KK, hw⟩ := hrel
  subst hw
  by_cases hlt : k < 16
  · have hd : decide ((k : Int) < 16) = true := by simp; omega
    go_wp2_with fail
    refine (HAt.out (k : Int)).mono ?_
    rintro e1 w2 ⟨hw2, ⟨i, n, r, rfl, -, he, hr⟩ | ⟨rfl, hno⟩⟩
    · subst hw2
      have HN : Hid (∀ j : Nat, j < k + 1 → ∃ r, rs[j]? = some (some r)) := hide (fun j hj => by
        by_cases e1 : j = k
        · obtain rfl : j = n := by omega
          exact ⟨r, hr⟩
        · exact KK.out j (by omega))
      have hneg : decide ((i : Int) < 0) = false := by simp
      clear he hr
      go_wp2
      go_roundw
      case rel => first | exact ⟨k + 1, by omega, by go_num, HN, by first | trivial | rfl⟩ | ((repeat apply Exists.intro); refine ⟨?_, rfl⟩; exact ⟨k + 1, by omega, by go_num, HN, by first | trivial | rfl⟩)
      case measure => simp [intOf]; omega
    · subst hw2
      have HN : Hid (rs[k]? = some none) := hide (by
        have hkl : k < rs.length := by rw [Hl.out]; exact hlt
        rw [List.getElem?_eq_getElem hkl]
        cases hq : rs[k] with
        | none => rfl
        | some r => exact absurd (by rw [List.getElem?_eq_getElem hkl, hq]) (hno k r rfl))
      clear hno
      go_wp2
      go_ret
      exact ⟨rfl, .inl ⟨k, hlt, rfl, HN.out, KK.out⟩⟩
  · obtain rfl : k = 16 := by omega
    have hd : decide ((16 : Int) < 16) = false := by decide
    go_wp2
    go_ret
    exact ⟨rfl, .inr ⟨rfl, KK.out⟩⟩
end
end Go.Proofs.YtbocpmcodlceoaaGreat

namespace Go.Proofs.YtbocpmcodlceoaaGreat
open Go.RowKit

theorem own_set {w : World} {base ty size g n c j : Nat} {xs : List Value} (h : w.ownsRow base ty size (.slice (some ⟨g, 0, none⟩) n c) n xs) (u : Value) : (w.setCell ⟨g, j, none⟩ u).ownsRow base ty size (.slice (some ⟨g, 0, none⟩) n c) n (xs.set j u) := by
  obtain ⟨hl, ⟨h0, _⟩ | ⟨g', cp, cur, h0, h1, h2, h3, h4, h5, h6⟩⟩ := h
  · cases h0
  · cases h0
    refine ⟨by simpa using hl, .inr ⟨g, c, cur.setIfInBounds j u, rfl, h1, ?_, h3, h4, by simpa using h5, ?_⟩⟩
    · rw [heap_setCell_same _ g j _ _ u h2]
    · rw [← h6, Array.toList_setIfInBounds, List.take_set]
theorem own_frz {w : World} {base ty size g n c j : Nat} {xs : List Value} (h : w.ownsRow base ty size (.slice (some ⟨g, 0, none⟩) n c) n xs) : w.frozen? ⟨g, j, none⟩ = false := by
  obtain ⟨hl, ⟨h0, _⟩ | ⟨g', cp, cur, h0, h1, h2, h3, h4, h5, h6⟩⟩ := h
  · cases h0
  · cases h0
    exact frozen_of_row _ _ _ _ _ h2
theorem encW_set : ∀ (K : List Rw) (i j : Nat) (x y : Rw) (u : Value), K[i]? = some x → j < 25 → (encW1 x).set j u = encW1 y → (encW K).set (i * 25 + j) u = encW (K.set i y)
  | [], i, j, x, y, u, h, _, _ => by simp at h
  | z :: r, 0, j, x, y, u, h, hj, he => by
    simp at h; subst h
    show (encW1 z ++ encW r).set (0 * 25 + j) u = encW1 y ++ encW r
    rw [List.set_append_left _ _ (by rw [encW1_len]; omega), ← he]
    congr 2; omega
  | z :: r, i + 1, j, x, y, u, h, hj, he => by
    show (encW1 z ++ encW r).set ((i + 1) * 25 + j) u = encW1 z ++ encW (r.set i y)
    rw [List.set_append_right _ _ (by rw [encW1_len]; omega), ← encW_set r i j x y u (by simpa using h) hj he]
    congr 2; rw [encW1_len]; omega
section
variable {w : World} {R : Nat} {v : Value} {K : List Rw} {last : Int} {rs : List (Option Er)} {F : Nat → Prop}
theorem RtAt.rfrz {g L c : Nat} (h : RtAt w R (.slice (some ⟨g, 0, none⟩) L c) K last) (j : Nat) : w.frozen? ⟨g, j, none⟩ = false := by
  obtain ⟨a, c', hv⟩ := h.shape
  have hL : L = K.length := by cases hv; rfl
  subst hL
  exact own_frz h.row
theorem Ag.once (h : Ag rs K) {i j : Nat} {x y : Rw} (hx : K[i]? = some x) (hy : K[j]? = some y) (he : x.1 = y.1) : i = j := by
  obtain ⟨hi, ei⟩ := List.getElem?_eq_some_iff.1 hx
  obtain ⟨hj, ej⟩ := List.getElem?_eq_some_iff.1 hy
  have hn := List.pairwise_iff_getElem.1 (List.pairwise_map.1 h.nodup)
  rcases Nat.lt_trichotomy i j with hlt | rfl | hlt
  · exact absurd (by rw [ei, ej]; exact he) (hn i j hi hj hlt)
  · rfl
  · exact absurd (by rw [ei, ej]; exact he.symm) (hn j i hj hi hlt)
theorem Ag.set (h : Ag rs K) {i n : Nat} {r r' : Er} (hi : K[i]? = some (n, r)) (hr : rs[n]? = some (some r)) (hs : r'.se = r.se) : Ag (rs.set n (some r')) (K.set i (n, r')) := by
  obtain ⟨hil, hie⟩ := List.getElem?_eq_some_iff.1 hi
  have hnl := (List.getElem?_eq_some_iff.1 hr).1
  have hse : ∀ (k : Nat) (hk : k < K.length), ((K.set i (n, r'))[k]'(by simpa using hk)).2.se = K[k].2.se := fun k hk => by
    rw [List.getElem_set]
    split
    · rename_i e; subst e; rw [hie]; exact hs
    · rfl
  refine ⟨List.pairwise_iff_getElem.2 (fun a b ha hb hab => ?_), fun m e => ?_⟩
  · rw [hse a (by simpa using ha), hse b (by simpa using hb)]
    exact List.pairwise_iff_getElem.1 h.srt a b (by simpa using ha) (by simpa using hb) hab
  · rw [List.getElem?_set]
    constructor
    · intro hm
      obtain ⟨k, hk⟩ := List.getElem?_of_mem hm
      rw [List.getElem?_set] at hk
      split at hk
      · rename_i e1
        cases hk
        rw [if_pos rfl, if_pos hnl]
      · rename_i e1
        have hne : ¬ n = m := fun e2 => e1 (by subst e2; exact (h.once hk hi rfl).symm)
        rw [if_neg hne]
        exact (h.mem m e).1 (List.mem_of_getElem? hk)
    · intro hm
      split at hm
      · rename_i e1
        subst e1
        cases hm
        exact List.mem_of_getElem? (show (K.set i (n, r'))[i]? = _ by rw [List.getElem?_set, if_pos rfl, if_pos hil])
      · rename_i e1
        obtain ⟨k, hk⟩ := List.getElem?_of_mem ((h.mem m e).2 hm)
        have hne : ¬ i = k := fun e2 => e1 (by subst e2; rw [hi] at hk; cases hk; rfl)
        exact List.mem_of_getElem? (show (K.set i (n, r'))[k]? = _ by rw [List.getElem?_set, if_neg hne]; exact hk)
/-- one cell of a row is stored -/
theorem RtAt.put {g L c i n j : Nat} {r r' : Er} (h : RtAt w R (.slice (some ⟨g, 0, none⟩) L c) K last) (ha : Ag rs K) (he : ∀ b, F b ↔ b = R ∨ (Value.slice (some ⟨g, 0, none⟩) L c).ownBlock = some b) (hi : K[i]? = some (n, r)) (hr : rs[n]? = some (some r)) (u : Value) (hs : r'.se = r.se) (hu : (encW1 (n, r)).set j u = encW1 (n, r')) (hj : j < 25 := by decide) : RtA R (rs.set n (some r')) last (w.setCell ⟨g, i * 25 + j, none⟩ u) F ∧ Ext F w F (w.setCell ⟨g, i * 25 + j, none⟩ u) := by
  obtain ⟨a, c', hv⟩ := h.shape
  have hL : L = K.length := by cases hv; rfl
  subst hL
  have hne : g ≠ R := fun e => h.ne (by simp [Value.ownBlock, e])
  have ho := own_set (j := i * 25 + j) h.row u
  rw [encW_set K i j _ (n, r') u hi hj hu] at ho
  refine ⟨⟨_, K.set i (n, r'), ⟨?_, by rw [List.length_set]; exact ho, h.ne⟩, ha.set hi hr hs, he⟩, (Mod.refl _ _).setCell (.inl ((he g).2 (.inr (by simp [Value.ownBlock])))) _, fun _ h => .inl h⟩
  rw [heap_setCell_other _ _ _ _ (fun e => hne e.symm)]
  exact h.top
set_option maxHeartbeats 3200000 in
theorem freezeD_none (h : RtA R rs last w F) (hl : rs.length = 16) (e : Int) (hn : look rs e = none) (on : Bool) : Calls Tryz.prog 34 #[tp R, .int .i64 e, .bool on] w fun x w' => x = .returned (.int .i64 90) ∧ w' = w := by
  obtain ⟨v, K, h, ha, he⟩ := h
  have HAt := hide (atb_any h ha hl e)
  have HN : Hid (∀ (n : Nat) (r : Er), e = (n : Int) → rs[n]? ≠ some (some r)) := hide (fun n r en hr => by
    rw [en, look_nat, hr] at hn; cases hn)
  clear h ha he hl hn
  go_enter Tryz.func34, Tryz.ntmps34
  go_wp2_with fail
  refine HAt.out.mono ?_
  rintro e1 w2 ⟨hw2, ⟨i, n, r, -, -, hen, hr⟩ | ⟨rfl, -⟩⟩
  · exact absurd hr (HN.out n r hen)
  · subst hw2
    clear HAt HN
    go_wp2
    go_ret
    exact ⟨rfl, rfl⟩
set_option maxHeartbeats 3200000 in
theorem freezeD_some (h : RtA R rs last w F) (hl : rs.length = 16) (n : Nat) (r : Er) (hr : rs[n]? = some (some r)) (on : Bool) : Calls Tryz.prog 34 #[tp R, .int .i64 (n : Int), .bool on] w fun x w' => x = .returned (.int .i64 0) ∧ RtA R (rs.set n (some { r with fz := on })) last w' F ∧ Ext F w F w' := by
  obtain ⟨v, K, h, ha, he⟩ := h
  obtain ⟨i, hi⟩ := List.getElem?_of_mem ((ha.mem n r).2 hr)
  obtain ⟨g, c, hv, hrow⟩ := h.at hi
  have HAt := hide (atb_any h ha hl (n : Int))
  have HOn : Hid (∀ (i' n' : Nat) (r' : Er), K[i']? = some (n', r') → (n : Int) = (n' : Int) → i' = i) := hide (fun i' n' r' h1 h2 => ha.once h1 hi (by simp; omega))
  have HEx : Hid (∃ r', rs[n]? = some (some r')) := hide ⟨r, hr⟩
  have c0 := h.rowc
  have hil := (List.getElem?_eq_some_iff.1 hi).1
  obtain ⟨L, hL⟩ : ∃ L, K.length = L := ⟨_, rfl⟩
  rw [hL] at hv hil
  have hii : (i : Int) < (L : Int) := by omega
  subst hv
  have rc := hrow 6 _ rfl
  have fz := h.rfrz (i * 25 + 6)
  have HE : Hid (RtA R (rs.set n (some { r with fz := on })) last (w.setCell ⟨g, i * 25 + 6, none⟩ (.bool on)) F ∧ Ext F w F (w.setCell ⟨g, i * 25 + 6, none⟩ (.bool on))) := hide (RtAt.put h ha he hi hr (.bool on) rfl rfl)
  clear h ha he hl hi hr hrow hL
  go_enter Tryz.func34, Tryz.ntmps34
  go_wp2_with fail
  refine HAt.out.mono ?_
  rintro e1 w2 ⟨hw2, ⟨i', n', r', rfl, hi', hn', -⟩ | ⟨-, hno⟩⟩
  · have e2 := HOn.out i' n' r' hi' hn'
    subst e2
    subst hw2
    clear HAt HOn HEx hi' hn'
    go_wp2
    go_ret
    exact ⟨rfl, HE.out.1, HE.out.2⟩
  · obtain ⟨r', hr'⟩ := HEx.out
    exact absurd hr' (hno n r' rfl)
set_option maxHeartbeats 3200000 in
theorem setBitsD_none (h : RtA R rs last w F) (hl : rs.length = 16) (e : Int) (hn : look rs e = none) (z : Int) : Calls Tryz.prog 28 #[tp R, .int .i64 e, .int .i64 z] w fun x w' => x = .returned (.int .i64 90) ∧ w' = w := by
  obtain ⟨v, K, h, ha, he⟩ := h
  have HAt := hide (atb_any h ha hl e)
  have HN : Hid (∀ (n : Nat) (r : Er), e = (n : Int) → rs[n]? ≠ some (some r)) := hide (fun n r en hr => by
    rw [en, look_nat, hr] at hn; cases hn)
  clear h ha he hl hn
  go_enter Tryz.func28, Tryz.ntmps28
  go_wp2_with fail
  refine HAt.out.mono ?_
  rintro e1 w2 ⟨hw2, ⟨i, n, r, -, -, hen, hr⟩ | ⟨rfl, -⟩⟩
  · exact absurd hr (HN.out n r hen)
  · subst hw2
    clear HAt HN
    go_wp2
    go_ret
    exact ⟨rfl, rfl⟩
set_option maxHeartbeats 3200000 in
theorem setBitsD_some (h : RtA R rs last w F) (hl : rs.length = 16) (n : Nat) (r : Er) (hr : rs[n]? = some (some r)) (z : Int) (hz : 0 ≤ z ∧ z ≤ 4294967295) : Calls Tryz.prog 28 #[tp R, .int .i64 (n : Int), .int .i64 z] w fun x w' => x = .returned (.int .i64 0) ∧ RtA R (rs.set n (some { r with bi := z })) last w' F ∧ Ext F w F w' := by
  obtain ⟨v, K, h, ha, he⟩ := h
  obtain ⟨i, hi⟩ := List.getElem?_of_mem ((ha.mem n r).2 hr)
  obtain ⟨g, c, hv, hrow⟩ := h.at hi
  have HAt := hide (atb_any h ha hl (n : Int))
  have HOn : Hid (∀ (i' n' : Nat) (r' : Er), K[i']? = some (n', r') → (n : Int) = (n' : Int) → i' = i) := hide (fun i' n' r' h1 h2 => ha.once h1 hi (by simp; omega))
  have HEx : Hid (∃ r', rs[n]? = some (some r')) := hide ⟨r, hr⟩
  have c0 := h.rowc
  have hil := (List.getElem?_eq_some_iff.1 hi).1
  obtain ⟨L, hL⟩ : ∃ L, K.length = L := ⟨_, rfl⟩
  rw [hL] at hv hil
  have hii : (i : Int) < (L : Int) := by omega
  subst hv
  have rc := hrow 5 _ rfl
  have fz := h.rfrz (i * 25 + 5)
  have HE : Hid (RtA R (rs.set n (some { r with bi := z })) last (w.setCell ⟨g, i * 25 + 5, none⟩ (.int .i64 z)) F ∧ Ext F w F (w.setCell ⟨g, i * 25 + 5, none⟩ (.int .i64 z))) := hide (RtAt.put h ha he hi hr (.int .i64 z) rfl rfl)
  clear h ha he hl hi hr hrow hL
  have hz1 : decide (z < 0) = false := by simp; omega
  have hz2 : decide (4294967295 < z) = false := by simp; omega
  clear hz
  go_enter Tryz.func28, Tryz.ntmps28
  go_wp2_with fail
  refine HAt.out.mono ?_
  rintro e1 w2 ⟨hw2, ⟨i', n', r', rfl, hi', hn', -⟩ | ⟨-, hno⟩⟩
  · have e2 := HOn.out i' n' r' hi' hn'
    subst e2
    subst hw2
    clear HAt HOn HEx hi' hn'
    go_wp2
    go_ret
    exact ⟨rfl, HE.out.1, HE.out.2⟩
  · obtain ⟨r', hr'⟩ := HEx.out
    exact absurd hr' (hno n r' rfl)
end
end Go.Proofs.YtbocpmcodlceoaaGreat

namespace Go.Proofs.YtbocpmcodlceoaaGreat
open Go.RowKit

section
variable {w : World} {R : Nat} {v : Value} {K : List Rw} {last : Int} {rs : List (Option Er)} {F : Nat → Prop}
theorem RtAt.put1 {g L c i n j : Nat} {r r' : Er} (h : RtAt w R (.slice (some ⟨g, 0, none⟩) L c) K last) (ha : Ag rs K) (he : ∀ b, F b ↔ b = R ∨ (Value.slice (some ⟨g, 0, none⟩) L c).ownBlock = some b) (hi : K[i]? = some (n, r)) (hr : rs[n]? = some (some r)) (u : Value) (hs : r'.se = r.se) (hu : (encW1 (n, r)).set j u = encW1 (n, r')) (hj : j < 25) : RtAt (w.setCell ⟨g, i * 25 + j, none⟩ u) R (.slice (some ⟨g, 0, none⟩) L c) (K.set i (n, r')) last ∧ Ag (rs.set n (some r')) (K.set i (n, r')) ∧ Ext F w F (w.setCell ⟨g, i * 25 + j, none⟩ u) := by
  obtain ⟨a, c', hv⟩ := h.shape
  have hL : L = K.length := by cases hv; rfl
  subst hL
  have hne : g ≠ R := fun e => h.ne (by simp [Value.ownBlock, e])
  have ho := own_set (j := i * 25 + j) h.row u
  rw [encW_set K i j _ (n, r') u hi hj hu] at ho
  refine ⟨⟨?_, by rw [List.length_set]; exact ho, h.ne⟩, ha.set hi hr hs, (Mod.refl _ _).setCell (.inl ((he g).2 (.inr (by simp [Value.ownBlock])))) _, fun _ h => .inl h⟩
  rw [heap_setCell_other _ _ _ _ (fun e => hne e.symm)]
  exact h.top
set_option maxHeartbeats 3200000 in
theorem waitD_none (h : RtA R rs last w F) (hl : rs.length = 16) (e : Int) (hn : look rs e = none)  : Calls Tryz.prog 32 #[tp R, .int .i64 e] w fun x w' => x = .returned (.tuple #[.int .i64 0, .int .i64 90]) ∧ w' = w := by
  obtain ⟨v, K, h, ha, he⟩ := h
  have HAt := hide (atb_any h ha hl e)
  have HN : Hid (∀ (n : Nat) (r : Er), e = (n : Int) → rs[n]? ≠ some (some r)) := hide (fun n r en hr => by
    rw [en, look_nat, hr] at hn; cases hn)
  clear h ha he hl hn
  go_enter Tryz.func32, Tryz.ntmps32
  go_wp2_with fail
  refine HAt.out.mono ?_
  rintro e1 w2 ⟨hw2, ⟨i, n, r, -, -, hen, hr⟩ | ⟨rfl, -⟩⟩
  · exact absurd hr (HN.out n r hen)
  · subst hw2
    clear HAt HN
    go_wp2
    go_ret2
    exact ⟨rfl, rfl⟩
set_option maxHeartbeats 3200000 in
theorem waitD_bits (h : RtA R rs last w F) (hl : rs.length = 16) (n : Nat) (r : Er) (hr : rs[n]? = some (some r)) (hb : r.bi ≠ 0) : Calls Tryz.prog 32 #[tp R, .int .i64 (n : Int)] w fun x w' => x = .returned (.tuple #[.int .i64 r.bi, .int .i64 0]) ∧ RtA R (rs.set n (some { r with bi := 0 })) last w' F ∧ Ext F w F w' := by
  obtain ⟨v, K, h, ha, he⟩ := h
  obtain ⟨i, hi⟩ := List.getElem?_of_mem ((ha.mem n r).2 hr)
  obtain ⟨g, c, hv, hrow⟩ := h.at hi
  have HAt := hide (atb_any h ha hl (n : Int))
  have HOn : Hid (∀ (i' n' : Nat) (r' : Er), K[i']? = some (n', r') → (n : Int) = (n' : Int) → i' = i) := hide (fun i' n' r' h1 h2 => ha.once h1 hi (by simp; omega))
  have HEx : Hid (∃ r', rs[n]? = some (some r')) := hide ⟨r, hr⟩
  have hil := (List.getElem?_eq_some_iff.1 hi).1
  have hnl := (List.getElem?_eq_some_iff.1 hr).1
  obtain ⟨L, hL⟩ : ∃ L, K.length = L := ⟨_, rfl⟩
  rw [hL] at hv hil
  have hii : (i : Int) < (L : Int) := by omega
  subst hv
  have c0 := h.rowc
  have rc5 := hrow 5 _ rfl
  have rc0 := hrow 5 _ rfl
  have fz0 := h.rfrz (i * 25 + 5)
  obtain ⟨h1, ha1, x1⟩ := h.put1 ha he hi hr (r' := { r with bi := 0 }) (.int .i64 0) rfl rfl (by decide : 5 < 25)
  have hi1 : (K.set i (n, { r with bi := 0 }))[i]? = some (n, { r with bi := 0 }) := by rw [List.getElem?_set, if_pos rfl, if_pos (by rw [hL]; exact hil)]
  have hr1 : (rs.set n (some { r with bi := 0 }))[n]? = some (some { r with bi := 0 }) := by rw [List.getElem?_set, if_pos rfl, if_pos hnl]
  have HE : Hid (RtA R (rs.set n (some { r with bi := 0 })) last (w.setCell ⟨g, i * 25 + 5, none⟩ (.int .i64 0)) F ∧ Ext F w F (w.setCell ⟨g, i * 25 + 5, none⟩ (.int .i64 0))) := hide ⟨⟨_, _, h1, ha1, he⟩, x1⟩
  clear h ha he hl hi hr hrow hL h1 ha1 x1 hi1 hr1 
  have hb1 : (r.bi == 0) = false := by rw [beq_eq_false_iff_ne]; exact hb
  clear hb
  go_enter Tryz.func32, Tryz.ntmps32
  go_wp2_with fail
  refine HAt.out.mono ?_
  rintro e1 w2 ⟨hw2, ⟨i', n', r', rfl, hi', hn', -⟩ | ⟨-, hno⟩⟩
  · have e2 := HOn.out i' n' r' hi' hn'
    subst e2
    subst hw2
    clear HAt HOn HEx hi' hn'
    go_wp2
    go_ret2
    exact ⟨rfl, HE.out.1, HE.out.2⟩
  · obtain ⟨r', hr'⟩ := HEx.out
    exact absurd hr' (hno n r' rfl)
end
end Go.Proofs.YtbocpmcodlceoaaGreat

namespace Go.Proofs.YtbocpmcodlceoaaGreat
open Go.RowKit

section
variable {w : World} {R : Nat} {v : Value} {K : List Rw} {last : Int} {rs : List (Option Er)} {F : Nat → Prop}
set_option maxHeartbeats 3200000 in
theorem waitD_idle (h : RtA R rs last w F) (hl : rs.length = 16) (n : Nat) (r : Er) (hr : rs[n]? = some (some r)) (hb : r.bi = 0) : Calls Tryz.prog 32 #[tp R, .int .i64 (n : Int)] w fun x w' => x = .returned (.tuple #[.int .i64 0, .int .i64 0]) ∧ RtA R (rs.set n (some { r with st := 2, bi := 0 })) last w' F ∧ Ext F w F w' := by
  obtain ⟨v, K, h, ha, he⟩ := h
  obtain ⟨i, hi⟩ := List.getElem?_of_mem ((ha.mem n r).2 hr)
  obtain ⟨g, c, hv, hrow⟩ := h.at hi
  have HAt := hide (atb_any h ha hl (n : Int))
  have HOn : Hid (∀ (i' n' : Nat) (r' : Er), K[i']? = some (n', r') → (n : Int) = (n' : Int) → i' = i) := hide (fun i' n' r' h1 h2 => ha.once h1 hi (by simp; omega))
  have HEx : Hid (∃ r', rs[n]? = some (some r')) := hide ⟨r, hr⟩
  have hil := (List.getElem?_eq_some_iff.1 hi).1
  have hnl := (List.getElem?_eq_some_iff.1 hr).1
  obtain ⟨L, hL⟩ : ∃ L, K.length = L := ⟨_, rfl⟩
  rw [hL] at hv hil
  have hii : (i : Int) < (L : Int) := by omega
  subst hv
  have c0 := h.rowc
  have rc5 := hrow 5 _ rfl
  have rc0 := hrow 3 _ rfl
  have fz0 := h.rfrz (i * 25 + 3)
  obtain ⟨h1, ha1, x1⟩ := h.put1 ha he hi hr (r' := { r with st := 2 }) (.int .i64 2) rfl rfl (by decide : 3 < 25)
  have hi1 : (K.set i (n, { r with st := 2 }))[i]? = some (n, { r with st := 2 }) := by rw [List.getElem?_set, if_pos rfl, if_pos (by rw [hL]; exact hil)]
  have hr1 : (rs.set n (some { r with st := 2 }))[n]? = some (some { r with st := 2 }) := by rw [List.getElem?_set, if_pos rfl, if_pos hnl]
  have c00 := h1.rowc
  have hLk1 : (K.set i (n, { r with st := 2 })).length = L := by rw [List.length_set]; exact hL
  have hnl1 : n < (rs.set n (some { r with st := 2 })).length := by rw [List.length_set]; exact hnl
  have hss1 : ∀ z, (rs.set n (some { r with st := 2 })).set n z = rs.set n z := fun z => by rw [List.set_set]
  generalize hK1 : K.set i (n, { r with st := 2 }) = K1 at *
  generalize hrs1 : rs.set n (some { r with st := 2 }) = rs1 at *
  clear hK1 hrs1
  obtain ⟨_, _, hv0, hrow0⟩ := h1.at hi1
  cases hv0
  have rc1 := hrow0 5 _ rfl
  have fz1 := h1.rfrz (i * 25 + 5)
  obtain ⟨h2, ha2, x2⟩ := h1.put1 ha1 he hi1 hr1 (r' := { r with st := 2, bi := 0 }) (.int .i64 0) rfl rfl (by decide : 5 < 25)
  have hi2 : (K1.set i (n, { r with st := 2, bi := 0 }))[i]? = some (n, { r with st := 2, bi := 0 }) := by rw [List.getElem?_set, if_pos rfl, if_pos (by rw [hLk1]; exact hil)]
  have hr2 : (rs1.set n (some { r with st := 2, bi := 0 }))[n]? = some (some { r with st := 2, bi := 0 }) := by rw [List.getElem?_set, if_pos rfl, if_pos hnl1]
  have HE : Hid (RtA R (rs.set n (some { r with st := 2, bi := 0 })) last ((w.setCell ⟨g, i * 25 + 3, none⟩ (.int .i64 2)).setCell ⟨g, i * 25 + 5, none⟩ (.int .i64 0)) F ∧ Ext F w F ((w.setCell ⟨g, i * 25 + 3, none⟩ (.int .i64 2)).setCell ⟨g, i * 25 + 5, none⟩ (.int .i64 0))) := hide ⟨⟨_, _, h2, by rw [← hss1]; exact ha2, he⟩, x1.trans (x2)⟩
  clear h ha he hl hi hr hrow hL h1 ha1 x1 hi1 hr1 h2 ha2 x2 hi2 hr2 hrow0
  rw [hb] at rc5
  clear hb
  go_enter Tryz.func32, Tryz.ntmps32
  go_wp2_with fail
  refine HAt.out.mono ?_
  rintro e1 w2 ⟨hw2, ⟨i', n', r', rfl, hi', hn', -⟩ | ⟨-, hno⟩⟩
  · have e2 := HOn.out i' n' r' hi' hn'
    subst e2
    subst hw2
    clear HAt HOn HEx hi' hn'
    go_wp2
    go_ret2
    exact ⟨rfl, HE.out.1, HE.out.2⟩
  · obtain ⟨r', hr'⟩ := HEx.out
    exact absurd hr' (hno n r' rfl)
set_option maxHeartbeats 3200000 in
theorem setStateD_none (h : RtA R rs last w F) (hl : rs.length = 16) (e : Int) (hn : look rs e = none) (s z : Int) : Calls Tryz.prog 26 #[tp R, .int .i64 e, .int .i64 s, .int .i64 z] w fun x w' => x = .returned (.int .i64 90) ∧ w' = w := by
  obtain ⟨v, K, h, ha, he⟩ := h
  have HAt := hide (atb_any h ha hl e)
  have HN : Hid (∀ (n : Nat) (r : Er), e = (n : Int) → rs[n]? ≠ some (some r)) := hide (fun n r en hr => by
    rw [en, look_nat, hr] at hn; cases hn)
  clear h ha he hl hn
  go_enter Tryz.func26, Tryz.ntmps26
  go_wp2_with fail
  refine HAt.out.mono ?_
  rintro e1 w2 ⟨hw2, ⟨i, n, r, -, -, hen, hr⟩ | ⟨rfl, -⟩⟩
  · exact absurd hr (HN.out n r hen)
  · subst hw2
    clear HAt HN
    go_wp2
    go_ret
    exact ⟨rfl, rfl⟩
set_option maxHeartbeats 3200000 in
theorem setStateD_some (h : RtA R rs last w F) (hl : rs.length = 16) (n : Nat) (r : Er) (hr : rs[n]? = some (some r)) (s z : Int) (hs : 0 ≤ s ∧ s ≤ 4) (hz : 0 ≤ z ∧ z ≤ 4294967295) : Calls Tryz.prog 26 #[tp R, .int .i64 (n : Int), .int .i64 s, .int .i64 z] w fun x w' => x = .returned (.int .i64 0) ∧ RtA R (rs.set n (some { r with st := s, co := z })) last w' F ∧ Ext F w F w' := by
  obtain ⟨v, K, h, ha, he⟩ := h
  obtain ⟨i, hi⟩ := List.getElem?_of_mem ((ha.mem n r).2 hr)
  obtain ⟨g, c, hv, hrow⟩ := h.at hi
  have HAt := hide (atb_any h ha hl (n : Int))
  have HOn : Hid (∀ (i' n' : Nat) (r' : Er), K[i']? = some (n', r') → (n : Int) = (n' : Int) → i' = i) := hide (fun i' n' r' h1 h2 => ha.once h1 hi (by simp; omega))
  have HEx : Hid (∃ r', rs[n]? = some (some r')) := hide ⟨r, hr⟩
  have hil := (List.getElem?_eq_some_iff.1 hi).1
  have hnl := (List.getElem?_eq_some_iff.1 hr).1
  obtain ⟨L, hL⟩ : ∃ L, K.length = L := ⟨_, rfl⟩
  rw [hL] at hv hil
  have hii : (i : Int) < (L : Int) := by omega
  subst hv
  have c0 := h.rowc
  have rc5 := hrow 5 _ rfl
  have rc0 := hrow 3 _ rfl
  have fz0 := h.rfrz (i * 25 + 3)
  obtain ⟨h1, ha1, x1⟩ := h.put1 ha he hi hr (r' := { r with st := s }) (.int .i64 s) rfl rfl (by decide : 3 < 25)
  have hi1 : (K.set i (n, { r with st := s }))[i]? = some (n, { r with st := s }) := by rw [List.getElem?_set, if_pos rfl, if_pos (by rw [hL]; exact hil)]
  have hr1 : (rs.set n (some { r with st := s }))[n]? = some (some { r with st := s }) := by rw [List.getElem?_set, if_pos rfl, if_pos hnl]
  have c00 := h1.rowc
  have hLk1 : (K.set i (n, { r with st := s })).length = L := by rw [List.length_set]; exact hL
  have hnl1 : n < (rs.set n (some { r with st := s })).length := by rw [List.length_set]; exact hnl
  have hss1 : ∀ z, (rs.set n (some { r with st := s })).set n z = rs.set n z := fun z => by rw [List.set_set]
  generalize hK1 : K.set i (n, { r with st := s }) = K1 at *
  generalize hrs1 : rs.set n (some { r with st := s }) = rs1 at *
  clear hK1 hrs1
  obtain ⟨_, _, hv0, hrow0⟩ := h1.at hi1
  cases hv0
  have rc1 := hrow0 4 _ rfl
  have fz1 := h1.rfrz (i * 25 + 4)
  obtain ⟨h2, ha2, x2⟩ := h1.put1 ha1 he hi1 hr1 (r' := { r with st := s, co := z }) (.int .i64 z) rfl rfl (by decide : 4 < 25)
  have hi2 : (K1.set i (n, { r with st := s, co := z }))[i]? = some (n, { r with st := s, co := z }) := by rw [List.getElem?_set, if_pos rfl, if_pos (by rw [hLk1]; exact hil)]
  have hr2 : (rs1.set n (some { r with st := s, co := z }))[n]? = some (some { r with st := s, co := z }) := by rw [List.getElem?_set, if_pos rfl, if_pos hnl1]
  have HE : Hid (RtA R (rs.set n (some { r with st := s, co := z })) last ((w.setCell ⟨g, i * 25 + 3, none⟩ (.int .i64 s)).setCell ⟨g, i * 25 + 4, none⟩ (.int .i64 z)) F ∧ Ext F w F ((w.setCell ⟨g, i * 25 + 3, none⟩ (.int .i64 s)).setCell ⟨g, i * 25 + 4, none⟩ (.int .i64 z))) := hide ⟨⟨_, _, h2, by rw [← hss1]; exact ha2, he⟩, x1.trans (x2)⟩
  clear h ha he hl hi hr hrow hL h1 ha1 x1 hi1 hr1 h2 ha2 x2 hi2 hr2 hrow0
  have s1 : decide (s < 0) = false := by simp; omega
  have s2 : decide (4 < s) = false := by simp; omega
  have z1 : decide (z < 0) = false := by simp; omega
  have z2 : decide (4294967295 < z) = false := by simp; omega
  clear hs hz
  go_enter Tryz.func26, Tryz.ntmps26
  go_wp2_with fail
  refine HAt.out.mono ?_
  rintro e1 w2 ⟨hw2, ⟨i', n', r', rfl, hi', hn', -⟩ | ⟨-, hno⟩⟩
  · have e2 := HOn.out i' n' r' hi' hn'
    subst e2
    subst hw2
    clear HAt HOn HEx hi' hn'
    go_wp2
    go_ret
    exact ⟨rfl, HE.out.1, HE.out.2⟩
  · obtain ⟨r', hr'⟩ := HEx.out
    exact absurd hr' (hno n r' rfl)
set_option maxHeartbeats 3200000 in
theorem setBitsD_bad1 (h : RtA R rs last w F) (hl : rs.length = 16) (n : Nat) (r : Er) (hr : rs[n]? = some (some r)) (z : Int) (hz : z < 0) : Calls Tryz.prog 28 #[tp R, .int .i64 (n : Int), .int .i64 z] w fun x w' => x = .returned (.int .i64 1) ∧ w' = w := by
  obtain ⟨v, K, h, ha, he⟩ := h
  have HAt := hide (atb_any h ha hl (n : Int))
  have HEx := hide hr
  clear h ha he hl hr
  have z1 : decide (z < 0) = true := by simp; exact hz
  clear hz
  go_enter Tryz.func28, Tryz.ntmps28
  go_wp2_with fail
  refine HAt.out.mono ?_
  rintro e1 w2 ⟨hw2, ⟨i', n', r', rfl, -, -, -⟩ | ⟨-, hno⟩⟩
  · subst hw2
    clear HAt HEx
    go_wp2
    go_ret
    exact ⟨rfl, rfl⟩
  · exact absurd HEx.out (hno n r rfl)
set_option maxHeartbeats 3200000 in
theorem setBitsD_bad2 (h : RtA R rs last w F) (hl : rs.length = 16) (n : Nat) (r : Er) (hr : rs[n]? = some (some r)) (z : Int) (hz : 4294967295 < z) : Calls Tryz.prog 28 #[tp R, .int .i64 (n : Int), .int .i64 z] w fun x w' => x = .returned (.int .i64 1) ∧ w' = w := by
  obtain ⟨v, K, h, ha, he⟩ := h
  have HAt := hide (atb_any h ha hl (n : Int))
  have HEx := hide hr
  clear h ha he hl hr
  have z1 : decide (z < 0) = false := by simp; omega
  have z2 : decide (4294967295 < z) = true := by simp; exact hz
  clear hz
  go_enter Tryz.func28, Tryz.ntmps28
  go_wp2_with fail
  refine HAt.out.mono ?_
  rintro e1 w2 ⟨hw2, ⟨i', n', r', rfl, -, -, -⟩ | ⟨-, hno⟩⟩
  · subst hw2
    clear HAt HEx
    go_wp2
    go_ret
    exact ⟨rfl, rfl⟩
  · exact absurd HEx.out (hno n r rfl)
end
end Go.Proofs.YtbocpmcodlceoaaGreat

namespace Go.Proofs.YtbocpmcodlceoaaGreat
open Go.RowKit

section
variable {w : World} {R : Nat} {v : Value} {K : List Rw} {last : Int} {rs : List (Option Er)} {F : Nat → Prop}
set_option maxHeartbeats 3200000 in
theorem setStateD_bad1 (h : RtA R rs last w F) (hl : rs.length = 16) (n : Nat) (r : Er) (hr : rs[n]? = some (some r)) (s z : Int) (hs : s < 0) : Calls Tryz.prog 26 #[tp R, .int .i64 (n : Int), .int .i64 s, .int .i64 z] w fun x w' => x = .returned (.int .i64 1) ∧ w' = w := by
  obtain ⟨v, K, h, ha, he⟩ := h
  have HAt := hide (atb_any h ha hl (n : Int))
  have HEx := hide hr
  clear h ha he hl hr
  have s1 : decide (s < 0) = true := by simp; omega
  clear hs
  go_enter Tryz.func26, Tryz.ntmps26
  go_wp2_with fail
  refine HAt.out.mono ?_
  rintro e1 w2 ⟨hw2, ⟨i', n', r', rfl, -, -, -⟩ | ⟨-, hno⟩⟩
  · subst hw2
    clear HAt HEx
    go_wp2
    go_ret
    exact ⟨rfl, rfl⟩
  · exact absurd HEx.out (hno n r rfl)
set_option maxHeartbeats 3200000 in
theorem setStateD_bad2 (h : RtA R rs last w F) (hl : rs.length = 16) (n : Nat) (r : Er) (hr : rs[n]? = some (some r)) (s z : Int) (hs : 4 < s) : Calls Tryz.prog 26 #[tp R, .int .i64 (n : Int), .int .i64 s, .int .i64 z] w fun x w' => x = .returned (.int .i64 1) ∧ w' = w := by
  obtain ⟨v, K, h, ha, he⟩ := h
  have HAt := hide (atb_any h ha hl (n : Int))
  have HEx := hide hr
  clear h ha he hl hr
  have s1 : decide (s < 0) = false := by simp; omega
  have s2 : decide (4 < s) = true := by simp; omega
  clear hs
  go_enter Tryz.func26, Tryz.ntmps26
  go_wp2_with fail
  refine HAt.out.mono ?_
  rintro e1 w2 ⟨hw2, ⟨i', n', r', rfl, -, -, -⟩ | ⟨-, hno⟩⟩
  · subst hw2
    clear HAt HEx
    go_wp2
    go_ret
    exact ⟨rfl, rfl⟩
  · exact absurd HEx.out (hno n r rfl)
set_option maxHeartbeats 3200000 in
theorem setStateD_bad3 (h : RtA R rs last w F) (hl : rs.length = 16) (n : Nat) (r : Er) (hr : rs[n]? = some (some r)) (s z : Int) (hs : 0 ≤ s ∧ s ≤ 4) (hz : z < 0) : Calls Tryz.prog 26 #[tp R, .int .i64 (n : Int), .int .i64 s, .int .i64 z] w fun x w' => x = .returned (.int .i64 1) ∧ w' = w := by
  obtain ⟨v, K, h, ha, he⟩ := h
  have HAt := hide (atb_any h ha hl (n : Int))
  have HEx := hide hr
  clear h ha he hl hr
  have s1 : decide (s < 0) = false := by simp; omega
  have s2 : decide (4 < s) = false := by simp; omega
  have z1 : decide (z < 0) = true := by simp; omega
  clear hs hz
  go_enter Tryz.func26, Tryz.ntmps26
  go_wp2_with fail
  refine HAt.out.mono ?_
  rintro e1 w2 ⟨hw2, ⟨i', n', r', rfl, -, -, -⟩ | ⟨-, hno⟩⟩
  · subst hw2
    clear HAt HEx
    go_wp2
    go_ret
    exact ⟨rfl, rfl⟩
  · exact absurd HEx.out (hno n r rfl)
set_option maxHeartbeats 3200000 in
theorem setStateD_bad4 (h : RtA R rs last w F) (hl : rs.length = 16) (n : Nat) (r : Er) (hr : rs[n]? = some (some r)) (s z : Int) (hs : 0 ≤ s ∧ s ≤ 4) (hz : 4294967295 < z) : Calls Tryz.prog 26 #[tp R, .int .i64 (n : Int), .int .i64 s, .int .i64 z] w fun x w' => x = .returned (.int .i64 1) ∧ w' = w := by
  obtain ⟨v, K, h, ha, he⟩ := h
  have HAt := hide (atb_any h ha hl (n : Int))
  have HEx := hide hr
  clear h ha he hl hr
  have s1 : decide (s < 0) = false := by simp; omega
  have s2 : decide (4 < s) = false := by simp; omega
  have z1 : decide (z < 0) = false := by simp; omega
  have z2 : decide (4294967295 < z) = true := by simp; omega
  clear hs hz
  go_enter Tryz.func26, Tryz.ntmps26
  go_wp2_with fail
  refine HAt.out.mono ?_
  rintro e1 w2 ⟨hw2, ⟨i', n', r', rfl, -, -, -⟩ | ⟨-, hno⟩⟩
  · subst hw2
    clear HAt HEx
    go_wp2
    go_ret
    exact ⟨rfl, rfl⟩
  · exact absurd HEx.out (hno n r rfl)
end
end Go.Proofs.YtbocpmcodlceoaaGreat
