import Derived.Test.YtimfgjndgfjjgaaV1
namespace Go.Proofs.Ytimfgjndgfjjgaa
open Go.RowKit

/-- behind i of the four openings -/
structure Opn (i : Nat) (bk : List (Option Lst)) : Prop where
  op : ∀ x : Nat, (look bk (x : Int)).isSome = decide (x < i)
  no : ∀ a b : Nat, atB bk (a : Int) (b : Int) = none
theorem opn_zero : Opn 0 (List.replicate 16 none) := by
  have hl : ∀ x : Nat, look (List.replicate 16 (none : Option Lst)) (x : Int) = none := by
    intro x; rw [look_nat, List.getElem?_replicate]; split <;> rfl
  exact ⟨fun x => by rw [hl]; simp, fun a b => by unfold atB; rw [hl]; rfl⟩
theorem opn_next {i : Nat} {bk bk' : List (Option Lst)} {c : Int} (h : Opn i bk) (hb : bk.length = 16) (hi : i < 4) (ho : OpenR bk i c bk') : c = 0 ∧ Opn (i + 1) bk' := by
  obtain ⟨h1, h2, h3⟩ := open_view (i := i) (by omega) (by rw [h.op]; simp) ho
  refine ⟨h1, fun x => ?_, fun a b => (h2 a b).trans (h.no a b)⟩
  rw [h3, h.op]
  rcases Nat.lt_trichotomy x i with h4 | h4 | h4
  · simp [h4]; omega
  · simp [h4]
  · have e1 : ¬ x < i := by omega
    have e2 : ¬ x = i := by omega
    have e3 : ¬ x < i + 1 := by omega
    simp [e1, e2, e3]
theorem mint_begun {bk bk' : List (Option Lst)} {k o s r v c : Int} (h : Opn 4 bk) (h48 : ∀ (i : Nat) (l : Lst), bk[i]? = some (some l) → l.length = 48) (hm : mb k o s r) (hM : MintR bk 0 (-1) k o s r v c bk') : v = 0 ∧ c = 0 ∧ Begun bk' k o s r := by
  have h0 := h.op 0
  obtain ⟨l0, hl0, hlk⟩ := look_len (i := 0) (by rw [h0]; rfl)
  rcases hM with ⟨h1, _⟩ | ⟨_, h3, _⟩ | ⟨i, l, l', hi, h3, h4, _, h6, rfl⟩
  · rw [show ((0 : Nat) : Int) = 0 from rfl] at hlk
    rw [hlk] at h1; cases h1
  · rcases h3 with h3 | h3
    · omega
    · exact (h3 hm).elim
  · obtain rfl : i = 0 := by omega
    rcases lay_view h3 (h48 0 l h3) h6 with ⟨q, hq, rfl, rfl, _, hlow, _, hsh, hat⟩ | ⟨_, _, _, h7⟩
    · have hq0 : q = 0 := by
        rcases Nat.eq_zero_or_pos q with e | e
        · exact e
        · exact (hlow (by omega) 0 e (h.no 0 0)).elim
      subst hq0
      refine ⟨rfl, rfl, fun x => (hsh x).trans (h.op x), fun a b => ?_⟩
      rw [hat, h.no]
    · rcases h7 with ⟨_, h8⟩ | h8 | ⟨h8, _⟩
      · exact (h8 0 (by omega) (h.no 0 0)).elim
      · omega
      · omega
theorem derive_begun {bk bk' : List (Option Lst)} {k o s r v c : Int} (h : Begun bk k o s r) (h48 : ∀ (i : Nat) (l : Lst), bk[i]? = some (some l) → l.length = 48) (hr : 0 ≤ r ∧ r ≤ 15) (hok : okR r ⟨k, o, s, r, -1, -1⟩ = true) (hD : DeriveR bk 0 0 3 47 r v c bk') :
    v = 47 ∧ c = 0 ∧ Shape bk bk' ∧ ∀ x y : Nat, atB bk' (x : Int) (y : Int) = if x = 3 ∧ y = 47 then some ⟨k, o, s, r, 0, 0⟩ else atB bk (x : Int) (y : Int) := by
  have h0 : atB bk 0 0 = some ⟨k, o, s, r, -1, -1⟩ := by have := h.at0 0 0; simpa using this
  obtain ⟨l0, hl0, hlk⟩ := look_len (i := 3) (by rw [h.four]; rfl)
  rcases hD with ⟨h1, _⟩ | ⟨_, h1, _⟩ | ⟨_, _, h1, _⟩ | ⟨_, ⟨q, h1, h2⟩, _⟩ | ⟨i, l, l', q, hi, h3, h4, _, _, _, h6, rfl⟩
  · rw [show ((3 : Nat) : Int) = 3 from rfl] at hlk
    rw [hlk] at h1; cases h1
  · rw [h0] at h1; cases h1
  · omega
  · rw [h0] at h1; cases h1; rw [hok] at h2; cases h2
  · obtain rfl : i = 3 := by omega
    rw [h0] at h4; cases h4
    rcases lay_view h3 (h48 3 l h3) h6 with ⟨p, hp, rfl, rfl, _, _, hpos, hsh, hat⟩ | ⟨_, _, _, h7⟩
    · have := hpos (by omega)
      obtain rfl : p = 47 := by omega
      exact ⟨rfl, rfl, hsh, hat⟩
    · rcases h7 with ⟨h8, _⟩ | ⟨_, h8⟩ | ⟨_, x, h8⟩
      · omega
      · omega
      · have := h.at0 3 47
        rw [show ((3 : Nat) : Int) = 3 from rfl, show ((47 : Nat) : Int) = 47 from rfl] at this
        rw [show ((3 : Nat) : Int) = 3 from rfl] at h8
        rw [h8] at this; simp at this
theorem drop_begun {bk bk1 bk' : List (Option Lst)} {k o s r : Int} (h : Begun bk k o s r) (hs : Shape bk bk1) (hat : ∀ x y : Nat, atB bk1 (x : Int) (y : Int) = if x = 3 ∧ y = 47 then some ⟨k, o, s, r, 0, 0⟩ else atB bk (x : Int) (y : Int)) (hD : DropR bk1 3 47 ⟨k, o, s, r, 0, 0⟩ bk') : Begun bk' k o s r := by
  refine ⟨(h.four.shape hs).shape hD.1, fun a b => ?_⟩
  rw [hD.2 a b, hat, h.at0]
  by_cases e : a = 3 ∧ b = 47
  · obtain ⟨rfl, rfl⟩ := e; simp
  · simp only [if_neg e]
    by_cases e2 : a = 0 ∧ b = 0
    · simp [e2, rp]
    · simp [e2]
set_option maxRecDepth 8000 in
set_option maxHeartbeats 4000000 in
theorem begun_any (w : World) (k o s r : Int) (hm : mb k o s r) :
    Calls Try.prog 9 #[.agg #[.int .i64 k, .int .i64 o, .int .i64 s, .int .i64 r]] w fun x w' => ∃ B F bk, x = .returned (.pointer (some ⟨B, 0, none⟩)) ∧ Book w' F B bk ∧ (∀ b, F b → w.heap.size ≤ b) ∧ Below w.heap.size w w' ∧ Begun bk k o s r := by
  have hb0 := (Below.refl w.heap.size w).alloc (Nat.le_refl _) (.cells #[.int .i64 k, .int .i64 o, .int .i64 s, .int .i64 r] 26)
  have hR0 := heap_alloc_new w (.cells #[.int .i64 k, .int .i64 o, .int .i64 s, .int .i64 r] 26)
  have HB0 := hide hb0
  have HMb := hide hm
  clear hb0 hm
  go_enter Try.func9, Try.ntmps9
  go_wp2_with fail
  generalize hgw : w.alloc (.cells #[.int .i64 k, .int .i64 o, .int .i64 s, .int .i64 r] 26) = w0 at *
  clear hgw
  have hlt0 := (Array.getElem?_eq_some_iff.1 hR0).1
  generalize hn0 : w.heap.size = n0 at *
  refine (new_any w0).mono ?_
  rintro e w1 ⟨B, F, rfl, hB, hF, hb1⟩
  have HR1 := hide ((hb1.block n0 hlt0).trans hR0)
  have HS : Hid (∃ F bk, Book w1 F B bk ∧ Opn 0 bk ∧ (∀ b, F b → n0 < b) ∧ Below n0 w w1 ∧ w1.heap[n0]? = some (.cells #[.int .i64 k, .int .i64 o, .int .i64 s, .int .i64 r] 26 (0, 0))) :=
    ⟨F, _, hB, opn_zero, fun b hb => by have := hF b hb; omega, HB0.out.trans (hb1.mono (by omega)), HR1.out⟩
  clear hB hF hb1 HR1 hR0
  go_wp2_with fail
  go_loopw [4] (fun x wr => ∃ i : Nat, i ≤ 4 ∧ x = .int .i64 (i : Int) ∧ Hid (∃ F bk, Book wr F B bk ∧ Opn i bk ∧ (∀ b, F b → n0 < b) ∧ Below n0 w wr ∧ wr.heap[n0]? = some (.cells #[.int .i64 k, .int .i64 o, .int .i64 s, .int .i64 r] 26 (0, 0)))) (fun x _ => 4 - (intOf x).toNat)
  case atStart => exact ⟨0, by omega, rfl, HS⟩
  case round =>
  clear HS
  obtain ⟨i, hi, rfl, K1⟩ := hrel
  by_cases hlt : i < 4
  · obtain ⟨F1, bk1, h1, h2, h3, h4, h5⟩ := K1.out
    have HO := hide (open_any wr F1 B bk1 h1 (i : Int))
    have H2 := hide (And.intro h1 (And.intro h2 (And.intro h3 (And.intro h4 h5))))
    have hi4 : (i : Int) < 4 := by omega
    clear h1 h2 h3 h4 h5 K1
    go_wp2_with fail
    refine HO.out.mono ?_
    rintro e w2 ⟨c, bk', F', rfl, hB2, hE2, hO2⟩
    obtain ⟨h1, h2, h3, h4, h5⟩ := H2.out
    obtain ⟨rfl, hO3⟩ := opn_next h2 h1.blen hlt hO2
    have K2 : Hid (∃ F bk, Book w2 F B bk ∧ Opn (i + 1) bk ∧ (∀ b, F b → n0 < b) ∧ Below n0 w w2 ∧ w2.heap[n0]? = some (.cells #[.int .i64 k, .int .i64 o, .int .i64 s, .int .i64 r] 26 (0, 0))) :=
      ⟨F', bk', hB2, hO3, fun b hb => by rcases hE2.new b hb with h | h; exact h3 b h; have := (Array.getElem?_eq_some_iff.1 h5).1; omega, h4.trans (hE2.mod.below (fun b hb => Nat.le_of_lt (h3 b hb)) (by have := h4.size; omega)), (hE2.mod.block n0 (Array.getElem?_eq_some_iff.1 h5).1 (fun hf => by have := h3 n0 hf; omega)).trans h5⟩
    clear hB2 hE2 hO2 h1 h2 h3 h4 h5 HO H2 hO3
    go_wp2
    go_roundw
    case rel =>
      first
        | exact ⟨i + 1, by omega, by go_num, K2⟩
        | ((repeat apply Exists.intro); refine ⟨?_, rfl⟩; exact ⟨i + 1, by omega, by go_num, K2⟩)
    case measure => simp [intOf]; omega
  · obtain rfl : i = 4 := by omega
    obtain ⟨F1, bk1, h1, h2, h3, h4, h5⟩ := K1.out
    have HM := hide (mint_any wr F1 B bk1 h1 0 (-1) k o s r)
    obtain ⟨d0, d1, d2, d3⟩ := blk4 h5
    have H2 := hide (And.intro h1 (And.intro h2 (And.intro h3 (And.intro h4 h5))))
    clear h1 h2 h3 h4 h5 K1
    go_wp2_with fail
    refine HM.out.mono ?_
    rintro e w2 ⟨v, c, bk2, F2, rfl, hB2, hE2, hM2⟩
    obtain ⟨h1, h2, h3, h4, h5⟩ := H2.out
    obtain ⟨rfl, rfl, hBeg⟩ := mint_begun h2 (fun i l hl => h1.l48 hl) HMb.out hM2
    have hn2 : ∀ b, F2 b → n0 < b := fun b hb => by
      rcases hE2.new b hb with h | h
      · exact h3 b h
      · have := (Array.getElem?_eq_some_iff.1 h5).1; omega
    have hbl2 := h4.trans (hE2.mod.below (fun b hb => Nat.le_of_lt (h3 b hb)) (by have := h4.size; omega))
    have hR2 := (hE2.mod.block n0 (Array.getElem?_eq_some_iff.1 h5).1 (fun hf => by have := h3 n0 hf; omega)).trans h5
    have HN2 := hide hn2
    have HB2 := hide hB2
    have HBe := hide hBeg
    have HBl2 := hide hbl2
    have HR2 := hide hR2
    clear h1 h2 h3 h4 h5 hB2 hE2 hM2 hBeg hn2 hbl2 H2 HM d0 d1 d2 d3
    obtain ⟨d0, d1, d2, d3⟩ := blk4 hR2
    clear hR2
    obtain ⟨gb, hgb⟩ : ∃ gb, (bits .and .i64 r 4 == 0) = gb := ⟨_, rfl⟩
    cases gb
    · have HG := hide hgb
      have HDv := hide (derive_any w2 F2 B bk2 HB2.out 0 0 3 47 r)
      go_wp2_with fail
      refine HDv.out.mono ?_
      rintro e w3 ⟨v, c, bk3, F3, rfl, hB3, hE3, hD3⟩
      obtain ⟨rfl, rfl, hsh3, hat3⟩ := derive_begun HBe.out (fun i l hl => HB2.out.l48 hl) ⟨HMb.out.2.2.2.2.2.2.1, HMb.out.2.2.2.2.2.2.2⟩ (okR_self r HMb.out.2.2.2.2.2.2.1 HMb.out.2.2.2.2.2.2.2 HG.out _ rfl) hD3
      have hat : atB bk3 3 47 = some ⟨k, o, s, r, 0, 0⟩ := by have := hat3 3 47; simpa using this
      have hn3 : ∀ b, F3 b → n0 < b := fun b hb => by
        rcases hE3.new b hb with h | h
        · exact HN2.out b h
        · have := (Array.getElem?_eq_some_iff.1 HR2.out).1; omega
      have hbl3 := HBl2.out.trans (hE3.mod.below (fun b hb => Nat.le_of_lt (HN2.out b hb)) (by have := HBl2.out.size; omega))
      have hR3 := (hE3.mod.block n0 (Array.getElem?_eq_some_iff.1 HR2.out).1 (fun hf => by have := HN2.out n0 hf; omega)).trans HR2.out
      have HB3 := hide hB3
      have HN3 := hide hn3
      have HBl3 := hide hbl3
      have HR3 := hide hR3
      have HSA := hide (And.intro hsh3 hat3)
      have HAt := hide hat
      have HFm := hide (from_any w3 F3 B bk3 hB3 3 47)
      rw [lcode_some hat, show fromB bk3 3 47 = (0, 0) by unfold fromB; rw [hat]] at HFm
      clear hB3 hE3 hD3 hsh3 hat3 hat hn3 hbl3 hR3 HDv HB2 HN2 HBl2 HR2 d0 d1 d2 d3
      go_wp2_with fail
      refine HFm.out.mono ?_
      rintro e w4 ⟨rfl, hb4⟩
      have hb5 := hb4.alloc hb4.size (.cells #[.int .i64 0, .int .i64 0] 28)
      have HB5 := hide (HB3.out.below hb5)
      have hR5 := (hb5.block n0 (Array.getElem?_eq_some_iff.1 HR3.out).1).trans HR3.out
      have HBl5 := hide (HBl3.out.trans (hb5.mono (by have := HBl3.out.size; omega)))
      have HDr := hide (dropSome_any _ F3 B bk3 HB5.out 3 47 _ HAt.out)
      clear hb4 HFm HB3 HBl3 HR3
      go_wp2_with fail
      refine HDr.out.mono ?_
      rintro e w6 ⟨rfl, bk6, hB6, hE6, hD6⟩
      have HBe6 := hide (drop_begun HBe.out HSA.out.1 HSA.out.2 hD6)
      have hR6 := (hE6.mod.block n0 (Array.getElem?_eq_some_iff.1 hR5).1 (fun hf => by have := HN3.out n0 hf; omega)).trans hR5
      have hb7 := (Below.refl w6.heap.size w6).alloc (Nat.le_refl _) (.cells #[.int .i64 k, .int .i64 o, .int .i64 s, .int .i64 r] 26)
      have hR7 := (hb7.block n0 (Array.getElem?_eq_some_iff.1 hR6).1).trans hR6
      have hX7 := heap_alloc_new w6 (.cells #[.int .i64 k, .int .i64 o, .int .i64 s, .int .i64 r] 26)
      have HB7 := hide (hB6.below hb7)
      have HBl7 := hide ((HBl5.out.trans (hE6.mod.below (fun b hb => Nat.le_of_lt (HN3.out b hb)) (by have := HBl5.out.size; omega))).trans (hb7.mono (by have := HBl5.out.size; have := hE6.mod.size; omega)))
      clear hb5 hB6 hE6 hD6 hR5 hR6 hb7 HDr HBe HB5 HBl5 HSA HAt
      simp only [Rc.cap]
      go_upto_region 19 with fail
      generalize hgw : w6.alloc (.cells #[.int .i64 k, .int .i64 o, .int .i64 s, .int .i64 r] 26) = w7 at *
      clear hgw
      obtain ⟨d0, d1, d2, d3⟩ := blk4 hR7
      obtain ⟨x0, x1, x2, x3⟩ := blk4 hX7
      clear hR7 hX7
      go_wp2
      go_ret
      exact ⟨B, F3, bk6, rfl, HB7.out, by rw [hn0]; exact fun b hb => Nat.le_of_lt (HN3.out b hb), by rw [hn0]; exact HBl7.out, HBe6.out⟩
    · have H9 := hide (show ∃ B' F bk, B' = B ∧ Book w2 F B bk ∧ (∀ b, F b → n0 ≤ b) ∧ Below n0 w w2 ∧ Begun bk k o s r from ⟨B, F2, bk2, rfl, HB2.out, fun b hb => Nat.le_of_lt (HN2.out b hb), HBl2.out, HBe.out⟩)
      clear HB2 HN2 HBl2 HBe HR2
      go_wp2
      go_ret
      obtain ⟨B', F, bk, rfl, h1, h2, h3, h4⟩ := H9.out
      exact ⟨B', F, bk, rfl, h1, by rw [hn0]; exact h2, by rw [hn0]; exact h3, h4⟩
end Go.Proofs.Ytimfgjndgfjjgaa
