import Derived.Test.YtimfgjndgfjjgaaRI
namespace Go.Proofs.Ytimfgjndgfjjgaa
open Go.RowKit Go.Shelf

/-- the book stays sound -/
theorem Fol.sndd {o : Opr} {bk bk' : List (Option Lst)} {M M' : List (Nat × Nat)} {f : Int → Int → Nat} (hf : Snd bk f) (h48 : ∀ (i : Nat) (l : Lst), bk[i]? = some (some l) → l.length = 48) (hF : Fol o bk M bk' M') : ∃ f', Snd bk' f' := by
  cases hF with
  | derive0 hq hD => exact (Step.derive hq hD).snd hf h48
  | derive hq hD => exact (Step.derive hq hD).snd hf h48
  | drop0 => exact ⟨f, hf⟩
  | drop _ _ _ hr hD => exact ⟨f, hf.drop hr hD⟩
  | revoke0 => exact ⟨f, hf⟩
  | revoke _ _ _ _ hD hp => exact ⟨f, hf.revoke hD hp⟩
  | shut0 => exact ⟨f, hf⟩
  | shut _ _ hl hD => exact ⟨f, (hf.drops hD).congr (shut_view hl hD)⟩
  | other _ _ _ _ hS => exact hS.snd hf h48
/-- the law's world in its second loop: the book, the marks, the watched place -/
structure RsAt (w wr : World) (B Mb Wb : Nat) (F : Nat → Prop) (bk : List (Option Lst)) (v : Value) (M : List (Nat × Nat)) : Prop where
  book : Book wr F B bk
  snd : ∃ f, Snd bk f
  imp : (∃ r, atB bk 1 40 = some r) → MInv bk M
  opn : (look bk 1).isSome = true
  ms : Ms (Wb + 1) wr F Mb v M
  wb : wr.heap[Wb]? = some (.cells #[.int .i64 1, .int .i64 40] 28 (0, 0))
  nf : ¬ F Wb
  wlo : w.heap.size ≤ Wb
  lo : ∀ b, F b → w.heap.size ≤ b
  bel : Below w.heap.size w wr
section
variable {w wr w' : World} {B Mb Wb : Nat} {F F' : Nat → Prop} {bk : List (Option Lst)} {v : Value} {M : List (Nat × Nat)}
theorem RsAt.wlt (h : RsAt w wr B Mb Wb F bk v M) : Wb < wr.heap.size := (Array.getElem?_eq_some_iff.1 h.wb).1
theorem RsAt.below (h : RsAt w wr B Mb Wb F bk v M) (hb : Below wr.heap.size wr w') : RsAt w w' B Mb Wb F bk v M :=
  ⟨h.book.below hb, h.snd, h.imp, h.opn, h.ms.ext (Ext.of_below hb), (hb.block Wb h.wlt).trans h.wb, h.nf, h.wlo, h.lo, h.bel.trans (hb.mono h.bel.size)⟩
theorem RsAt.follow (h : RsAt w wr B Mb Wb F bk v M) (hw : ∃ r, atB bk 1 40 = some r) (hn : M.length ≤ 1999) (o : Ov) (x7 : o.o.q ≠ 7) (x5 : ¬ (o.o.q = 5 ∧ o.o.e = 1 ∧ o.o.s = 40)) (x2 : ¬ (o.o.q = 2 ∧ o.o.e = 1)) :
    Calls Try.prog 25 #[.pointer (some ⟨Mb, 0, none⟩), .pointer (some ⟨B, 0, none⟩), .agg o.cells.toArray, .agg #[.int .i64 1, .int .i64 40]] wr fun x w' => x = .returned (.tuple #[]) ∧ ∃ F' bk' v' M', RsAt w w' B Mb Wb F' bk' v' M' ∧ M'.length ≤ M.length + 1 := by
  obtain ⟨f, hf⟩ := h.snd
  have hI := h.imp hw
  refine (follow_any wr F B bk h.book f hf.rk (Wb + 1) Mb v M h.ms h.wlt hn o).mono ?_
  rintro x w' ⟨rfl, F', bk', v', M', h1, h2, h3, h4⟩
  obtain ⟨i1, i2, i3⟩ := Fol.inv hI (fun i l hl => h.book.l48 hl) h.opn h3 x7 x5 x2
  have hsn : ∃ f', Snd bk' f' := Fol.sndd hf (fun i l hl => h.book.l48 hl) h3
  have hWn : ¬ (F Wb ∨ Wb = Mb ∨ v.ownBlock = some Wb) := by
    rintro (e | e | e)
    · exact h.nf e
    · have := h.ms.lo; omega
    · have := (h.ms.vb Wb e).1; omega
  refine ⟨rfl, F', bk', v', M', ⟨h1, hsn, i2, i1, h2, (h4.mod.block Wb h.wlt hWn).trans h.wb, fun hf => ?_, h.wlo, fun b hb => ?_, ?_⟩, i3⟩
  · rcases h4.new Wb hf with e | e
    · exact h.nf e
    · have := h.wlt; omega
  · rcases h4.new b hb with e | e
    · exact h.lo b e
    · exact Nat.le_trans h.bel.size e
  · refine h.bel.trans (h4.mod.below (fun b hb => ?_) h.bel.size)
    rcases hb with e | e | e
    · exact h.lo b e
    · have := h.ms.lo; have := h.wlo; omega
    · have := (h.ms.vb b e).1; have := h.wlo; omega
end
end Go.Proofs.Ytimfgjndgfjjgaa
