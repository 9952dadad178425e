import Derived.Test.YtimfgjndgfjjgaaRJ
namespace Go.Proofs.Ytimfgjndgfjjgaa
open Go.RowKit Go.Shelf

theorem ix_in {M : List (Nat × Nat)} {e s : Int} (h : ∃ q ∈ M, isP e s q = true) : ∃ j : Nat, ixM M e s = (j : Int) := by
  unfold ixM
  cases hf : M.findIdx? (isP e s) with
  | some j => exact ⟨j, rfl⟩
  | none =>
    obtain ⟨q, h1, h2⟩ := h
    rw [List.findIdx?_eq_none_iff.1 hf q h1] at h2; cases h2
theorem ix_out {M : List (Nat × Nat)} {e s : Int} (h : ∀ q ∈ M, isP e s q = false) : ixM M e s = -1 := by
  unfold ixM
  rw [List.findIdx?_eq_none_iff.2 h]
theorem heldOf_len (bk : List (Option Lst)) (ps : List (Nat × Nat)) : (heldOf bk ps).length = ps.length := by simp [heldOf]
/-- behind the last Revoke -/
structure Rv (w wr w' : World) (B Mb : Nat) (F : Nat → Prop) (bk : List (Option Lst)) (v : Value) (M : List (Nat × Nat)) (vg : Value) (ps : List (Nat × Nat)) : Prop where
  book : Book w' F B (rmv bk ps)
  ext : Ext F wr F w'
  at_ : w'.heap[Mb]? = some (.cells #[v] 65 (0, 0))
  pr : PR w' v M
  held : HeldAt w' vg (heldOf bk ps)
  len : ps.length = M.length
  mem : ∀ q, q ∈ ps ↔ q ∈ M
  le : ps.length ≤ 768
  hlen : (hl (rmv bk ps) 16).length + ps.length = (hl bk 16).length
  aft : ∀ y ∈ hl (rmv bk ps) 16, ∃ i : Nat, y.1 = i ∧ atB bk (i : Int) (y.2.1 : Int) = some y.2.2 ∧ (i, y.2.1) ∉ ps
  bel : Below w.heap.size w w'
theorem RsAt.revoke {w wr : World} {B Mb Wb : Nat} {F : Nat → Prop} {bk : List (Option Lst)} {v : Value} {M : List (Nat × Nat)} (h : RsAt w wr B Mb Wb F bk v M) (hw : ∃ r, atB bk 1 40 = some r) :
    Calls Try.prog 23 #[.pointer (some ⟨B, 0, none⟩), .int .i64 1, .int .i64 40] wr fun x w' => ∃ vg ps, x = .returned (.tuple #[vg, .int .i64 0]) ∧ Rv w wr w' B Mb F bk v M vg ps := by
  obtain ⟨r, hr⟩ := hw
  obtain ⟨f, hf⟩ := h.snd
  have hI := h.imp ⟨r, hr⟩
  refine (revokeSome_any wr F B bk h.book f hf.rk 1 40 r hr).mono ?_
  rintro x w' ⟨vg, ps, n, rfl, h1, _, h3, h4, h5, h6⟩
  obtain ⟨m1, m2, m3⟩ := mlen hI h1 h3
  have hex : ∀ p ∈ ps, ∃ r, atB bk (p.1 : Int) (p.2 : Int) = some r := fun p hp => bel_mem n (h3.mem_iff.1 hp)
  rw [encT_held hex] at h4
  have h4' : w'.ownsRow wr.heap.size 54 6 vg (heldOf bk ps).length (encA (heldOf bk ps)) := by rw [heldOf_len]; exact h4
  obtain ⟨q1, q2⟩ := hl_rmv h.book.blen m1 hex
  have hms := h.ms.ext h6
  exact ⟨vg, ps, rfl, h5, h6, hms.at_, hms.pr, HeldAt.of_row h4', m2, m3, plc_le h.book m1 hex, q1, q2, h.bel.trans (h6.mod.below h.lo h.bel.size)⟩
theorem Rv.before {w wr w' : World} {B Mb : Nat} {F : Nat → Prop} {bk : List (Option Lst)} {v : Value} {M : List (Nat × Nat)} {vg : Value} {ps : List (Nat × Nat)} (h : Rv w wr w' B Mb F bk v M vg ps) {vb : Value} {l : List Hd} (hh : HeldAt wr vb l) (hn : ∀ g, vb.ownBlock = some g → ¬ F g) : HeldAt w' vb l := by
  obtain ⟨a, c, rfl, hc⟩ := hh
  refine ⟨a, c, rfl, fun k hk => ?_⟩
  obtain ⟨g, rfl, h2, h3, h4, h5, h6, h7, h8⟩ := hc k hk
  have hq : ∀ j, w'.cell? ⟨g, j, none⟩ = wr.cell? ⟨g, j, none⟩ := fun j => by
    unfold World.cell?
    rw [h.ext.mod.block g h2 (hn g rfl)]
  exact ⟨g, rfl, Nat.lt_of_lt_of_le h2 h.ext.mod.size, by rw [hq]; exact h3, by rw [hq]; exact h4, by rw [hq]; exact h5, by rw [hq]; exact h6, by rw [hq]; exact h7, by rw [hq]; exact h8⟩
theorem heldOf_get {bk : List (Option Lst)} {ps : List (Nat × Nat)} {k : Nat} (hk : k < (heldOf bk ps).length) : (heldOf bk ps)[k].1 = ((ps[k]'(by rw [heldOf_len] at hk; exact hk)).1 : Int) ∧ (heldOf bk ps)[k].2.1 = (ps[k]'(by rw [heldOf_len] at hk; exact hk)).2 := by simp [heldOf]
end Go.Proofs.Ytimfgjndgfjjgaa
