import Derived.Test.YteacmcdmdeckmaaGreatB4
namespace Go.Proofs.YteacmcdmdeckmaaGreat
open Go.RowKit

theorem blk4 {w1 : World} {b : Nat} {x0 x1 x2 x3 : Value} {t : TypeId} (h : w1.heap[b]? = some (.cells #[x0, x1, x2, x3] t (0, 0))) :
    w1.cell? ⟨b, 0, none⟩ = some x0 ∧ w1.cell? ⟨b, 1, none⟩ = some x1 ∧ w1.cell? ⟨b, 2, none⟩ = some x2 ∧ w1.cell? ⟨b, 3, none⟩ = some x3 :=
  ⟨by rw [cell_of_row _ _ _ _ _ _ h]; rfl, by rw [cell_of_row _ _ _ _ _ _ h]; rfl, by rw [cell_of_row _ _ _ _ _ _ h]; rfl, by rw [cell_of_row _ _ _ _ _ _ h]; rfl⟩
theorem Ext.of_below {F : Nat → Prop} {a w : World} (h : Below a.heap.size a w) : Ext F a F w := ⟨Mod.of_below h, fun _ h => .inl h⟩
/-- what Mint does -/
def MintR (bk : List (Option Lst)) (e a : Int) (k o s r : Int) (v c : Int) (bk' : List (Option Lst)) : Prop :=
  (look bk e = none ∧ v = -1 ∧ c = 83 ∧ bk' = bk) ∨
  ((∃ l, look bk e = some l) ∧ (¬ (-1 ≤ a ∧ a < 48) ∨ ¬ mb k o s r) ∧ v = -1 ∧ c = 1 ∧ bk' = bk) ∨
  (∃ (i : Nat) (l l' : Lst), e = i ∧ bk[i]? = some (some l) ∧ (-1 ≤ a ∧ a < 48) ∧ mb k o s r ∧ LayR l a ⟨k, o, s, r, -1, -1⟩ v c l' ∧ bk' = bk.set i (some l'))
set_option maxHeartbeats 3200000 in
theorem mint_any (w : World) (F : Nat → Prop) (B : Nat) (bk : List (Option Lst)) (h : Book w F B bk) (e a k o s r : Int) :
    Calls Tryz.prog 53 #[.pointer (some ⟨B, 0, none⟩), .int .i64 e, .int .i64 a, .agg #[.int .i64 k, .int .i64 o, .int .i64 s, .int .i64 r]] w fun x w' => ∃ (v c : Int) (bk' : List (Option Lst)) (F' : Nat → Prop), x = .returned (.tuple #[.int .i64 v, .int .i64 c]) ∧ Book w' F' B bk' ∧ Ext F w F' w' ∧ MintR bk e a k o s r v c bk' := by
  have hb0 := (Below.refl w.heap.size w).alloc (Nat.le_refl _) (.cells #[.int .i64 k, .int .i64 o, .int .i64 s, .int .i64 r] 28)
  have hE0 : Ext F w F (w.alloc (.cells #[.int .i64 k, .int .i64 o, .int .i64 s, .int .i64 r] 28)) := ⟨(Mod.refl F w).alloc _, fun _ h => .inl h⟩
  have hk := h.below hb0
  have hR := heap_alloc_new w (.cells #[.int .i64 k, .int .i64 o, .int .i64 s, .int .i64 r] 28)
  have hFn : ¬ F w.heap.size := fun hf => by have := h.lt _ hf; omega
  obtain ⟨T, G, m, fs, hA⟩ := hk
  have c0 := hA.cell
  have HG := hide (getL_any _ G T m hA.tab e)
  have HE0 := hide hE0
  clear h hb0 hE0
  rcases hA.cases e with ⟨h1, h2⟩ | ⟨i, b, l, rfl, h1, h2, h3, h4, h5, h6⟩
  · rw [h1] at HG
    simp only [ptr, Option.isSome_none] at HG
    have HA := hide hA
    have H2 := hide h2
    clear hA h1 h2
    go_enter Tryz.func53, Tryz.ntmps53
    go_wp2_with fail
    refine HG.out.mono ?_
    rintro e1 w1 ⟨rfl, rfl⟩
    go_wp2
    go_ret2
    exact ⟨_, _, bk, F, rfl, ⟨_, _, _, _, HA.out⟩, HE0.out, .inl ⟨H2.out, rfl, rfl, rfl⟩⟩
  · rw [h3] at HG
    simp only [ptr, Option.isSome_some] at HG
    have HA := hide hA
    have H1 := hide h1
    have H2 := hide h2
    have H4 := hide h4
    have H5 := hide h5
    have H6 := hide h6
    have HI := hide (fun W => isAim_any W a)
    have HM := hide (fun W => mayBe_any W k o s r)
    clear hA h1 h2 h3 h4 h5 h6
    by_cases h7 : -1 ≤ a ∧ a < 48
    · rw [show decide (-1 ≤ a ∧ a < 48) = true by simpa using h7] at HI
      by_cases h8 : mb k o s r
      · rw [show decide (mb k o s r) = true by simpa using h8] at HM
        have H7 := hide h7
        have H8 := hide h8
        clear h7 h8
        go_enter Tryz.func53, Tryz.ntmps53
        go_wp2_with fail
        have hn0 : w.heap.size < (w.alloc (.cells #[.int .i64 k, .int .i64 o, .int .i64 s, .int .i64 r] 28)).heap.size := by simp
        generalize w.alloc (.cells #[.int .i64 k, .int .i64 o, .int .i64 s, .int .i64 r] 28) = w0 at *
        generalize w.heap.size = n0 at *
        refine HG.out.mono ?_
        rintro e1 w1 ⟨rfl, rfl⟩
        go_wp2_with fail
        refine (HI.out _).mono ?_
        rintro e1 w1 ⟨rfl, rfl⟩
        obtain ⟨d0, d1, d2, d3⟩ := blk4 hR
        go_wp2_with fail
        refine (HM.out _).mono ?_
        rintro e1 w2 ⟨rfl, hb2⟩
        have q0 := blk4 ((hb2.block n0 hn0).trans hR)
        have HB2 := hide hb2
        have HRR := hide hR
        clear d0 d1 d2 d3 hb2 hR HM HI HG c0
        go_wp2_with fail
        go_region_held (fun W => W.cell? ⟨n0, 0, none⟩ = some (.int .i64 k) ∧ W.cell? ⟨n0, 1, none⟩ = some (.int .i64 o) ∧ W.cell? ⟨n0, 2, none⟩ = some (.int .i64 s) ∧ W.cell? ⟨n0, 3, none⟩ = some (.int .i64 r))
          (first | assumption | exact q2 | exact q1 | exact q0)
          (first
            | (go_at_call 29; refine (nowhere_any _).mono ?_; rintro e1 w3 ⟨rfl, hb3⟩
               have hb3' := HB2.out.drew.trans (hb3.mono (Nat.le_trans HB2.out.size (Nat.le_refl _)))
               have q1 := blk4 ((hb3'.block n0 hn0).trans HRR.out)
               have HB3 := hide hb3'
               clear hb3 hb3')
            | (go_at_call 77; refine (lay_any _ (fs i) b l (H6.out.below HB3.out) a ⟨k, o, s, r, -1, -1⟩).mono ?_; rintro e2 w4 ⟨v, c, l', F', rfl, hT4, hE4, hL4⟩
               have q2 := blk4 ((hE4.mod.block n0 (Nat.lt_of_lt_of_le hn0 HB3.out.size) (fun hf => hFn (HA.out.own i b n0 H1.out hf).1)).trans ((HB3.out.block n0 hn0).trans HRR.out))
               have HT4 := hide hT4
               have HE4 := hide hE4
               have HL4 := hide hL4
               clear hT4 hE4 hL4))
        have K1 := hide ((HA.out.keep HB3.out.size (fun b hb => HB3.out.block b (HA.out.lt b hb))).upd H1.out (HL4.out.len.trans H5.out) HT4.out HE4.out)
        have K2 := hide ((HE0.out.trans (Ext.of_below HB3.out)).trans K1.out.2)
        clear HT4 HE4 q2 q1 q0 HB2 HB3 HA HRR
        go_wp2
        go_ret2
        exact ⟨v, c, _, _, rfl, ⟨_, _, _, _, K1.out.1⟩, K2.out, .inr (.inr ⟨i, l, l', rfl, H2.out, H7.out, H8.out, HL4.out, rfl⟩)⟩
      · rw [show decide (mb k o s r) = false by simpa using h8] at HM
        have H8 := hide h8
        clear h7 h8
        go_enter Tryz.func53, Tryz.ntmps53
        go_wp2_with fail
        generalize w.alloc (.cells #[.int .i64 k, .int .i64 o, .int .i64 s, .int .i64 r] 28) = w0 at *
        refine HG.out.mono ?_
        rintro e1 w1 ⟨rfl, rfl⟩
        go_wp2_with fail
        refine (HI.out _).mono ?_
        rintro e1 w1 ⟨rfl, rfl⟩
        obtain ⟨d0, d1, d2, d3⟩ := blk4 hR
        go_wp2_with fail
        refine (HM.out _).mono ?_
        rintro e1 w2 ⟨rfl, hb2⟩
        have HB2 := hide hb2
        clear hb2
        go_wp2
        go_ret2
        exact ⟨_, _, bk, F, rfl, Book.below ⟨_, _, _, _, HA.out⟩ HB2.out, HE0.out.trans (Ext.of_below HB2.out), .inr (.inl ⟨⟨l, H4.out⟩, .inr H8.out, rfl, rfl, rfl⟩)⟩
    · rw [show decide (-1 ≤ a ∧ a < 48) = false by simpa using h7] at HI
      have H7 := hide h7
      clear h7
      go_enter Tryz.func53, Tryz.ntmps53
      go_wp2_with fail
      generalize w.alloc (.cells #[.int .i64 k, .int .i64 o, .int .i64 s, .int .i64 r] 28) = w0 at *
      refine HG.out.mono ?_
      rintro e1 w1 ⟨rfl, rfl⟩
      go_wp2_with fail
      refine (HI.out _).mono ?_
      rintro e1 w1 ⟨rfl, rfl⟩
      go_wp2
      go_ret2
      exact ⟨_, _, bk, F, rfl, ⟨_, _, _, _, HA.out⟩, HE0.out, .inr (.inl ⟨⟨l, H4.out⟩, .inl H7.out, rfl, rfl, rfl⟩)⟩
end Go.Proofs.YteacmcdmdeckmaaGreat
