import Derived.Test.YtimfgjndgfjjgaaYH
namespace Go.Proofs.Ytimfgjndgfjjgaa
open Go.RowKit Go.Shelf

theorem one_len {bk : List (Option Lst)} (h : ∀ (a b : Nat) (q : Rc), atB bk (a : Int) (b : Int) = some q → a = 0 ∧ b = 0) : ∀ n, (hl bk n).length ≤ 1 := by
  have h0 : ∀ i, 0 < i → prs (lf bk i) 0 = [] := by
    intro i hi
    refine List.eq_nil_iff_forall_not_mem.2 fun x hx => ?_
    have hm : ((i : Int), x) ∈ hl bk (i + 1) := by rw [hl_succ]; exact List.mem_append_right _ (List.mem_map.2 ⟨x, hx, rfl⟩)
    obtain ⟨j, _, e1, e2⟩ := mem_hl hm
    obtain rfl : i = j := by have e2 : (i : Int) = j := e1; omega
    have := h i x.1 x.2 e2
    omega
  have h1 : (prs (lf bk 0) 0).length ≤ 1 := by
    have hs := prsL_sorted (lf bk 0) 0
    have hz : ∀ x ∈ prs (lf bk 0) 0, x.1 = 0 := by
      intro x hx
      have hm : ((0 : Int), x) ∈ hl bk 1 := by rw [hl_succ]; exact List.mem_append_right _ (List.mem_map.2 ⟨x, hx, rfl⟩)
      obtain ⟨j, _, e1, e2⟩ := mem_hl hm
      obtain rfl : 0 = j := by simp at e1; omega
      exact (h 0 x.1 x.2 e2).2
    have e : prs (lf bk 0) 0 = prsL 0 (lf bk 0) := rfl
    rw [e] at hz ⊢
    match hq : prsL 0 (lf bk 0) with
    | [] => simp
    | [x] => simp
    | x :: y :: t =>
      rw [hq] at hs hz
      have h2 := (List.pairwise_cons.1 hs).1 y (by simp)
      have h3 := hz x (by simp)
      have h4 := hz y (by simp)
      omega
  intro n
  cases n with
  | zero => simp [hl]
  | succ n =>
    have : ∀ n, hl bk (n + 1) = hl bk 1 := by
      intro n
      induction n with
      | zero => rfl
      | succ n ih => rw [hl_succ, ih, h0 (n + 1) (by omega)]; simp
    rw [this]
    simpa [hl] using h1
theorem Begun.one {bk : List (Option Lst)} {k o s r : Int} (h : Begun bk k o s r) : (hl bk 16).length = 1 := by
  have h1 := one_len (bk := bk) (fun a b q hq => by
    rw [h.at0] at hq
    split at hq
    · assumption
    · cases hq) 16
  have h2 := hl_mem (n := 16) (i := 0) (j := 0) (by omega) (show atB bk ((0 : Nat) : Int) ((0 : Nat) : Int) = some ⟨k, o, s, r, -1, -1⟩ by rw [h.at0]; simp)
  have h3 := List.length_pos_of_mem h2
  omega
set_option maxRecDepth 16000 in
set_option maxHeartbeats 8000000 in
theorem areSound_walk (a : Option Addr) (len cap : Nat) (O : Nat → Ov) (w : World) (hO : IsOps w a len O) :
    Calls Try.prog 6 #[.slice a len cap] w fun e w' => e = .returned (.bool true) ∧ Below w.heap.size w w' := by
  have HO := hide hO
  clear hO
  go_enter Try.func6, Try.ntmps6
  go_wp2_with fail
  refine (begun_any w 1 5 7 15 ⟨by omega, by omega, by omega, by omega, by omega, by omega, by omega, by omega⟩).mono ?_
  rintro e w1 ⟨B, F, bk, rfl, h1, h2, h3, h4⟩
  have HSg : Hid (SgAt (fun _ => True) w w1 B F bk (fun _ _ => 0)) := hide ⟨h1, trivial, h4.snd ⟨by omega, by omega⟩, h2, h3⟩
  have hone := h4.one
  clear h1 h2 h3 h4
  go_wp2_with fail
  refine (all_any w1 F B bk HSg.out.book).mono ?_
  rintro e w2 ⟨v, rfl, hrow, hb2⟩
  have HS2 := hide (HSg.out.turn (HSg.out.book.below hb2) (Ext.of_below hb2) trivial HSg.out.snd)
  have hh := HeldAt.of_row hrow
  have HSo := hide (sound_any w2 F B bk HS2.out.book _ HS2.out.snd v hh)
  obtain ⟨av, cv, hv, -⟩ := hh
  rw [hone] at hv
  subst hv
  clear hone hrow hb2 HSg
  go_wp2_with fail
  refine HSo.out.mono ?_
  rintro e w3 ⟨rfl, hb3⟩
  have HS3 : Hid (Sg (fun _ => True) w w3 B) := hide (Sg.below ⟨F, bk, _, HS2.out⟩ hb3)
  clear hb3 HSo HS2
  go_wp2_with fail
  go_loopw [5] (fun x wr => ∃ k : Nat, k ≤ len ∧ k ≤ 1024 ∧ x = .int .i64 (k : Int) ∧ Hid (Sg (fun _ => True) w wr B)) (fun x _ => 1024 - (intOf x).toNat)
  case atStart => exact ⟨0, by omega, by omega, rfl, HS3⟩
  case round =>
  clear HS3
  obtain ⟨k, hk, hk2, rfl, K1⟩ := hrel
  by_cases hlt : k < len
  · by_cases hlt2 : k < 1024
    · have hd1 : decide ((k : Int) < (len : Int)) = true := by simp; omega
      have hd2 : decide ((k : Int) < 1024) = true := by simp; omega
      obtain ⟨x, rfl, hx⟩ := HO.out.below K1.out.bel k hlt
      generalize O k = o at *
      have hkl : k * 12 + 11 < len * 12 := by omega
      go_wp2_with (refine loadOp ?lw _ rfl (x.add (k * 12)) ?lx o ?lc ?_)
      try (case lx => rfl)
      case lc => exact hx
      clear hx hkl
      refine (K1.out.play o (fun _ _ _ _ _ _ _ => trivial)).mono ?_
      rintro e w4 ⟨rfl, hS5⟩
      have HS5 := hide hS5
      clear hS5 K1
      go_wp2_with fail
      refine HS5.out.all.mono ?_
      rintro e w5 ⟨v5, bk5, rfl, hrow, hb5, hng, hlen, F5, f5, hS6⟩
      have hh := HeldAt.of_row hrow
      have HSo := hide (sound_any w5 F5 B bk5 hS6.book f5 hS6.snd v5 hh)
      have HS6 : Hid (Sg (fun _ => True) w w5 B) := hide ⟨F5, bk5, f5, hS6⟩
      clear hh hrow hb5 hng hlen hS6 HS5
      go_wp2_with fail
      refine HSo.out.mono ?_
      rintro e w6 ⟨rfl, hb6⟩
      have HS7 := hide (HS6.out.below hb6)
      clear hb6 HSo HS6
      go_wp2
      go_roundw
      case rel =>
        first
          | exact ⟨k + 1, by omega, by omega, by go_num, HS7⟩
          | ((repeat apply Exists.intro); refine ⟨?_, rfl⟩; exact ⟨k + 1, by omega, by omega, by go_num, HS7⟩)
      case measure => simp [intOf]; omega
    · have hd1 : decide ((k : Int) < (len : Int)) = true := by simp; omega
      have hd2 : decide ((k : Int) < 1024) = false := by simp; omega
      have HB9 := hide K1.out.bel
      clear K1
      go_wp2
      go_ret
      exact ⟨rfl, HB9.out⟩
  · have hd1 : decide ((k : Int) < (len : Int)) = false := by simp; omega
    have HB9 := hide K1.out.bel
    clear K1
    go_wp2
    go_ret
    exact ⟨rfl, HB9.out⟩
end Go.Proofs.Ytimfgjndgfjjgaa
