import Derived.Test.YtimfgjndgfjjgaaRD
namespace Go.Proofs.Ytimfgjndgfjjgaa
open Go.RowKit Go.Shelf

theorem cutAll_le : ∀ (l : List Hd) (M : List (Nat × Nat)), (cutAll M l).length ≤ M.length
  | [], _ => Nat.le_refl _
  | y :: t, M => Nat.le_trans (cutAll_le t (cutM M y.1 (y.2.1 : Int))) (cutM_len _ _ _)
theorem cutAll_snoc (M : List (Nat × Nat)) (l : List Hd) (y : Hd) : cutAll M (l ++ [y]) = cutM (cutAll M l) y.1 (y.2.1 : Int) := by simp [cutAll]
/-- the marks, at block Mb -/
structure Mr (w wr : World) (Mb : Nat) (v0 v : Value) (M : List (Nat × Nat)) : Prop where
  at_ : wr.heap[Mb]? = some (.cells #[v] 65 (0, 0))
  pr : PR wr v M
  from_ : ∀ g, v.ownBlock = some g → v0.ownBlock = some g ∨ w.heap.size ≤ g
  mod : Mod (fun b => b = Mb) w wr
theorem mod_cell {Mb : Nat} {w wr : World} (h : Mod (fun b => b = Mb) w wr) {g j : Nat} (hg : g < w.heap.size) (hne : g ≠ Mb) : wr.cell? ⟨g, j, none⟩ = w.cell? ⟨g, j, none⟩ := by
  unfold World.cell?
  rw [h.block g hg hne]
theorem Mr.drew {w wr : World} {Mb : Nat} {v0 v : Value} {M : List (Nat × Nat)} (h : Mr w wr Mb v0 v M) : Mr w wr.drew Mb v0 v M :=
  ⟨h.at_, h.pr.keep (fun _ _ => rfl), h.from_, ⟨h.mod.os, h.mod.tape, h.mod.output, h.mod.size, h.mod.block⟩⟩
set_option maxRecDepth 8000 in
set_option maxHeartbeats 8000000 in
theorem cutAll_any (w : World) (Mb : Nat) (v : Value) (M : List (Nat × Nat)) (hm : w.heap[Mb]? = some (.cells #[v] 65 (0, 0))) (hp : PR w v M) (hne : ∀ g, v.ownBlock = some g → g ≠ Mb) (hn : M.length ≤ 2000) (vl : Value) (l : List Hd) (hl : HeldAt w vl l) (hlb : ∀ g, vl.ownBlock = some g → g ≠ Mb) (hln : l.length ≤ 768) :
    Calls Try.prog 60 #[.pointer (some ⟨Mb, 0, none⟩), vl] w fun x w' => x = .returned (.tuple #[]) ∧ ∃ v', Mr w w' Mb v v' (cutAll M l) := by
  obtain ⟨L, hL⟩ : ∃ L, l.length = L := ⟨_, rfl⟩
  obtain ⟨al, cl, rfl, hcl⟩ := hl
  have hMl := (Array.getElem?_eq_some_iff.1 hm).1
  have HC : Hid (∀ wr, Mod (fun b => b = Mb) w wr → ∀ k (hk : k < l.length), ∃ g, al = some ⟨g, 0, none⟩ ∧ wr.cell? ⟨g, k * 6, none⟩ = some (.int .i64 l[k].1) ∧ wr.cell? ⟨g, k * 6 + 1, none⟩ = some (.int .i64 (l[k].2.1 : Int))) := by
    refine hide fun wr hmod k hk => ?_
    obtain ⟨g, rfl, h2, h3, h4, _⟩ := hcl k hk
    exact ⟨g, rfl, by rw [mod_cell hmod h2 (hlb g rfl)]; exact h3, by rw [mod_cell hmod h2 (hlb g rfl)]; exact h4⟩
  have H0 : Hid (Mr w w Mb v v (cutAll M (l.take 0))) := hide ⟨hm, hp, fun g hg => .inl hg, ⟨rfl, rfl, rfl, Nat.le_refl _, fun _ _ _ => rfl⟩⟩
  have HNe := hide hne
  clear hcl hlb hm hp hne
  rw [hL] at hln ⊢
  have HL := hide hL
  clear hL
  go_enter Try.func60, Try.ntmps60
  go_wp2_with fail
  go_loopw [4] (fun x wr => ∃ (k : Nat) (v' : Value), k ≤ L ∧ x = .int .i64 (k : Int) ∧ Hid (Mr w wr Mb v v' (cutAll M (l.take k)))) (fun x _ => L - (intOf x).toNat)
  case atStart => exact ⟨0, v, by omega, rfl, H0⟩
  case round =>
  clear H0
  obtain ⟨k, v', hk, rfl, K1⟩ := hrel
  by_cases hlt : k < L
  · have hlt' : k < l.length := by rw [HL.out]; exact hlt
    have K2 := hide K1.out.drew
    obtain ⟨gl, rfl, q0, q1⟩ := HC.out wr.drew K2.out.mod k hlt'
    have HT : Hid (cutAll M (l.take (k + 1)) = cutM (cutAll M (l.take k)) l[k].1 (l[k].2.1 : Int)) := by
      refine hide ?_
      rw [List.take_add_one, List.getElem?_eq_getElem hlt']; exact cutAll_snoc _ _ _
    have HCut : Hid (∀ W, W = wr.drew → Calls Try.prog 59 #[.pointer (some ⟨Mb, 0, none⟩), .agg #[.int .i64 l[k].1, .int .i64 (l[k].2.1 : Int)]] W fun x w' => x = .returned (.tuple #[]) ∧ (∃ v'', Mr w w' Mb v v'' (cutAll M (l.take (k + 1)))) ∧ w'.cell? ⟨gl, k * 6, none⟩ = some (.int .i64 l[k].1) ∧ w'.cell? ⟨gl, k * 6 + 1, none⟩ = some (.int .i64 (l[k].2.1 : Int))) := by
      refine hide fun W hW => ?_
      subst hW
      refine (cut_any wr.drew Mb v' _ K2.out.at_ K2.out.pr (fun g hg => ?_) (Nat.le_trans (cutAll_le _ _) hn) l[k].1 (l[k].2.1 : Int)).mono ?_
      · rcases K2.out.from_ g hg with h1 | h1
        · exact HNe.out g h1
        · omega
      · rintro x w' ⟨rfl, v'', h1, h2, h3, h4⟩
        have hm' : Mod (fun b => b = Mb) w w' := ⟨h4.os.trans K2.out.mod.os, h4.tape.trans K2.out.mod.tape, h4.output.trans K2.out.mod.output, Nat.le_trans K2.out.mod.size h4.size, fun b hb hf => (h4.block b (Nat.lt_of_lt_of_le hb K2.out.mod.size) hf).trans (K2.out.mod.block b hb hf)⟩
        refine ⟨rfl, ⟨v'', h1, by rw [HT.out]; exact h2, fun g hg => ?_, hm'⟩, ?_⟩
        · rcases h3 g hg with h5 | h5
          · exact K2.out.from_ g h5
          · exact .inr (Nat.le_trans K2.out.mod.size h5)
        · obtain ⟨g', e, r0, r1⟩ := HC.out w' hm' k hlt'
          cases e
          exact ⟨r0, r1⟩
    generalize l[k].1 = z1 at *
    generalize (l[k].2.1 : Int) = z2 at *
    have hkl : (k : Int) < (L : Int) := by omega
    have hwk : k * 6 + 5 < L * 6 := by omega
    have c3 : wr.drew.cell? ⟨gl, k * 6, none⟩ = some (.int .i64 z1) ∧ wr.drew.cell? ⟨gl, k * 6 + 1, none⟩ = some (.int .i64 z2) := ⟨q0, q1⟩
    clear q0 q1 K1 K2 HT
    go_upto_region 3 with fail
    go_region_held (fun W => W.cell? ⟨gl, k * 6, none⟩ = some (.int .i64 z1) ∧ W.cell? ⟨gl, k * 6 + 1, none⟩ = some (.int .i64 z2))
      (first | assumption | exact q1 | exact c3)
      (first | (go_at_call 59; refine (HCut.out _ rfl).mono ?_; rintro e1 w5 ⟨rfl, hM5, q1⟩
                have HM5 := hide hM5
                clear hM5))
    obtain ⟨v5, hM5⟩ := HM5.out
    have HM6 := hide hM5
    clear hM5 HM5 HCut
    go_wp2
    go_roundw
    case rel =>
      first
        | exact ⟨k + 1, v5, by omega, by go_num, HM6⟩
        | ((repeat apply Exists.intro); refine ⟨?_, rfl⟩; exact ⟨k + 1, v5, by omega, by go_num, HM6⟩)
    case measure => simp [intOf]; omega
  · have hd : decide ((k : Int) < (L : Int)) = false := by simp; omega
    have HF : Hid (∃ v', Mr w wr Mb v v' (cutAll M l)) := by
      have h9 := K1.out
      rw [List.take_of_length_le (by rw [HL.out]; omega)] at h9
      exact hide ⟨v', h9⟩
    clear K1
    go_wp2
    go_end0
    exact ⟨rfl, HF.out⟩
end Go.Proofs.Ytimfgjndgfjjgaa
