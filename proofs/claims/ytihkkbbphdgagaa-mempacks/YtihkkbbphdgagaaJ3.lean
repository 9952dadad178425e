import Derived.Test.YtihkkbbphdgagaaJ2
namespace Go.Proofs.Ytihkkbbphdgagaa
open Go.RowKit

/-- the first k frames of m are in use, no others -/
def First (m : Nat → Fr) (k : Nat) : Prop := ∀ j, (m j).h ≠ 0 ↔ j < k
theorem First.nil : First (fun _ => Fr.nil) 0 := by intro j; simp [Fr.nil]
theorem First.succ {m : Nat → Fr} {k : Nat} (h : First m k) (s : Int) : First (upd m k (Fr.new s)) (k + 1) := by
  intro j
  unfold upd
  split
  · simp [Fr.new]; omega
  · rw [h j]; omega
theorem First.lives {m : Nat → Fr} {k : Nat} (h : First m k) {n : Nat} (hk : k ≤ n) : lives m n = List.range k := by
  induction n with
  | zero => obtain rfl : k = 0 := by omega
            rfl
  | succ n ih =>
    by_cases e : k = n + 1
    · subst e
      have hall : ∀ i, i ≤ n + 1 → Go.Proofs.Ytihkkbbphdgagaa.lives m i = List.range i := by
        intro i
        induction i with
        | zero => intro _; rfl
        | succ i ih2 =>
          intro hi
          rw [lives_yes (by have := (h i).2 (by omega); omega), ih2 (by omega), List.range_succ]
      exact hall _ (Nat.le_refl _)
    · have hz : (m n).h = 0 := by
        rcases Nat.eq_zero_or_pos (m n).h with h0 | h0
        · exact h0
        · have := (h n).1 (by omega); omega
      rw [lives_no hz]
      exact ih (by omega)
theorem First.on {m : Nat → Fr} {k : Nat} (h : First m k) {j : Nat} (hj : j < k) : (m j).h ≠ 0 := (h j).2 hj
theorem First.off {m : Nat → Fr} {k : Nat} (h : First m k) : (m k).h = 0 := by
  rcases Nat.eq_zero_or_pos (m k).h with h0 | h0
  · exact h0
  · have := (h k).1 (by omega); omega
/-- the first k numbers are 1000 and on, the others as they were -/
def turned (n k : Nat) : List Nat := (List.range n).map fun j => if j < k then 1000 + j else j
theorem turned_0 (n : Nat) : turned n 0 = List.range n := by simp [turned]
theorem turned_len (n k : Nat) : (turned n k).length = n := by simp [turned]
theorem turned_succ {n k : Nat} : turned n (k + 1) = (turned n k).set k (1000 + k) := by
  apply List.ext_getElem?
  intro j
  by_cases hj : j < n
  · by_cases e : k = j
    · subst e; rw [List.getElem?_set_self (by rw [turned_len]; exact hj)]; simp [turned, hj]
    · rw [List.getElem?_set_ne e]; simp [turned, hj]
      by_cases h2 : j < k
      · simp [h2, Nat.lt_succ_of_lt h2]
      · simp [h2, show ¬ j < k + 1 by omega]
  · rw [List.getElem?_eq_none (by rw [turned_len]; omega), List.getElem?_eq_none (by rw [List.length_set, turned_len]; omega)]
theorem turned_get {n j : Nat} (hj : j < n) : (turned n n).getD j 0 = 1000 + j := by simp [turned, List.getD, hj]
theorem range_get {n j : Nat} (hj : j < n) : (List.range n).getD j 0 = j := by simp [List.getD, hj]

theorem Sx.setCell {w wr : World} {B G n : Nat} {m : Nat → Fr} (h : Sx w wr B G n m) {a : Addr} (hB : B ≠ a.block) (hG : G ≠ a.block) (hw : w.heap.size ≤ a.block) (v : Value) : Sx w (wr.setCell a v) B G n m :=
  ⟨h.mem.keep (heap_setCell_other _ _ _ _ hB) (heap_setCell_other _ _ _ _ hG), h.b, h.g, h.bel.setCell hw v⟩
theorem Sx.mod {w wr w' : World} {B G n g : Nat} {m : Nat → Fr} (h : Sx w wr B G n m) (hB : B ≠ g) (hG : G ≠ g) (hw : w.heap.size ≤ g) (hm : Mod (fun b => b = g) wr w') : Sx w w' B G n m :=
  ⟨h.mem.mod hm hB hG, h.b, h.g, h.bel.trans (hm.below (fun b hb => by rw [hb]; exact hw) h.bel.size)⟩
theorem cell_up {w w' : World} {a : Addr} {v : Value} (h : w.cell? a = some v) (hb : Below w.heap.size w w') : w'.cell? a = some v := by
  rw [hb.cell (World.block_lt_of_cell? w _ h)]; exact h
theorem cell_mod {w w' : World} {a : Addr} {v : Value} {F : Nat → Prop} (h : w.cell? a = some v) (hb : Mod F w w') (hF : ¬ F a.block) : w'.cell? a = some v := by
  have := hb.block a.block (World.block_lt_of_cell? w _ h) hF
  unfold World.cell? at h ⊢
  rw [this]; exact h
set_option maxRecDepth 10000 in
set_option maxHeartbeats 1000000 in
theorem lists_walk (n : Int) (w : World) :
    Calls Try.prog 5 #[.int .i64 n] w fun e w' => e = .returned (.bool true) ∧ Below w.heap.size w w' := by
  go_enter Try.func5, Try.ntmps5
  by_cases h0 : n < 1 ∨ 63 < n
  · by_cases h1 : n < 1
    · go_wp2
      go_ret
      exact ⟨rfl, Below.refl _ _⟩
    · have h2 : 63 < n := by omega
      go_wp2
      go_ret
      exact ⟨rfl, Below.refl _ _⟩
  · obtain ⟨N, rfl⟩ := Int.eq_ofNat_of_zero_le (show 0 ≤ n by omega)
    have hN1 : 1 ≤ N := by omega
    have hN2 : N ≤ 63 := by omega
    clear h0
    have hd1 : decide ((N : Int) < 1) = false := by simp; omega
    have hd2 : decide (63 < (N : Int)) = false := by simp; omega
    go_wp2_with fail
    refine (new_any w ((N : Int) + 1) (N + 1) (by omega)).mono ?_
    rintro e w1 ⟨rfl, hM, hb1⟩
    have h1 : Sx w w1 (w.heap.size + 1) w.heap.size (N + 1) (fun _ => Fr.nil) := ⟨hM, by omega, Nat.le_refl _, hb1⟩
    generalize w.heap.size + 1 = B at *
    obtain ⟨G, hG⟩ : ∃ G, w.heap.size = G := ⟨_, rfl⟩
    rw [show Sx w w1 B w.heap.size (N + 1) (fun _ => Fr.nil) = Sx w w1 B G (N + 1) (fun _ => Fr.nil) by rw [hG]] at h1
    clear hM hb1 hG
    have H1 := hide h1
    clear h1
    go_wp2
    go_loopw [4] (fun i wr => ∃ (k : Nat) (m : Nat → Fr), k ≤ N ∧ i = .int .i64 (k : Int) ∧ First m k ∧ Sx w wr B G (N + 1) m) (fun i _ => 64 - (intOf i).toNat)
    case atStart => exact ⟨0, _, by omega, rfl, First.nil, H1.out⟩
    case round =>
      obtain ⟨k, m, hk, rfl, hF, hS⟩ := hrel
      by_cases hlt : k < N
      · have hd : decide ((k : Int) < (N : Int)) = true := by simp; omega
        go_wp2_with fail
        refine (alloc_ok wr B G (N + 1) m ((k : Int) + 1) hS.mem (by omega) (by omega) (by omega) k (fun j hj => hF.on hj) (by omega) hF.off).mono ?_
        rintro e w2 ⟨rfl, hg⟩
        have HS := hide (hS.go hg)
        have HF := hide (hF.succ ((k : Int) + 1))
        clear hS hg hF
        go_wp2
        go_roundw
        case rel => exact ⟨k + 1, _, by omega, by go_num, HF.out, HS.out⟩
        case measure => simp [intOf]; omega
      · have hd : decide ((k : Int) < (N : Int)) = false := by simp; omega
        obtain rfl : k = N := by omega
        clear hlt hk H1
        go_wp2_with fail
        refine (live_any wr B G (k + 1) m hS.mem (by omega)).mono ?_
        rintro e w2 ⟨r, rfl, hO, hb2⟩
        rw [hF.lives (Nat.le_succ k)] at hO
        have hS2 := hS.below hb2
        obtain ⟨g, cap, rfl, hgb, hgc, hgl⟩ := hO.some_of (by simp; omega)
        have hgG : G ≠ g := by have := hS.mem.glt; omega
        have hgB : B ≠ g := by have := hS.mem.lt; omega
        have hgw : w.heap.size ≤ g := by have := hS.bel.size; omega
        generalize wr.heap.size = base at *
        clear hS hb2
        rw [List.length_range] at hO hgc ⊢
        have HX := hide (And.intro hO hS2)
        clear hO hS2
        go_wp2
        go_loopw [6] (fun i wr => ∃ j : Nat, j ≤ k ∧ i = .int .i64 (j : Int) ∧ OwI wr base (.slice (some ⟨g, 0, none⟩) k cap) (turned k j) ∧ Sx w wr B G (k + 1) m) (fun i _ => 64 - (intOf i).toNat)
        case atStart => exact ⟨0, by omega, rfl, by rw [turned_0]; exact HX.out.1, HX.out.2⟩
        case round =>
          obtain ⟨j, hj, rfl, hO, hS⟩ := hrel
          by_cases hlt : j < k
          · have hd : decide ((j : Int) < (k : Int)) = true := by simp; omega
            have c1 := hO.cell (j := j) (by rw [turned_len]; exact hlt)
            have f1 := hO.frz j
            have HO := hide (hO.set (k := j) (1000 + j))
            have HS : Hid (∀ v, Sx w (wr.setCell ⟨g, j, none⟩ v) B G (k + 1) m) := hide (fun v => hS.setCell (a := ⟨g, j, none⟩) hgB hgG hgw v)
            clear hO hS
            go_wp2
            go_roundw
            case rel => exact ⟨j + 1, by omega, by go_num, by rw [turned_succ]; exact HO.out, HS.out _⟩
            case measure => simp [intOf]; omega
          · have hd : decide ((j : Int) < (k : Int)) = false := by simp; omega
            have hj' : j = k := by omega
            rw [hj'] at hO
            clear HX hlt
            obtain ⟨ws, hws⟩ : ∃ ws, wr.alloc (.cells #[.int .i64 2001] 3) = ws := ⟨_, rfl⟩
            have hO3 : OwI ws base (.slice (some ⟨g, 0, none⟩) k cap) (turned k k) := by rw [← hws]; exact hO.up ((Below.refl _ _).alloc (Nat.le_refl _) _)
            have hS3 : Sx w ws B G (k + 1) m := by rw [← hws]; exact hS.below ((Below.refl _ _).alloc (Nat.le_refl _) _)
            have hN3 : ws.cell? ⟨wr.heap.size, 0, none⟩ = some (.int .i64 ((2001 : Nat) : Int)) := by rw [← hws, cell_of_row _ _ _ _ _ _ (heap_alloc_last _ _)]; rfl
            clear hO hS
            go_wp2_with (at_builtin; refine append_keep rfl _ _ rfl base g k cap (turned k k) 2001 wr.heap.size (turned_len _ _) hN1 (by omega) rfl hO3 rfl hN3 ?_)
            intro g2 c2 w4 hc2 hc1 hmod hcap2 hwhere
            have hg2G : g2 ≠ G := by
              rcases hwhere with e | e
              · rw [e]; exact Ne.symm hgG
              · have := hS3.mem.glt; omega
            have hS4 := hS3.mod hgB hgG hgw hmod
            have hc1' : ∀ j, j < k → w4.cell? ⟨g, j, none⟩ = some (.int .i64 ((1000 + j : Nat) : Int)) := fun j hj => by have e9 := turned_get hj; rw [List.getD] at e9; rw [hc1 j hj, e9]
            have HC := hide (And.intro hc2 hc1')
            clear hO3 hS3 hN3 hws hmod hc1 hc1' hc2
            go_wp2_with fail
            refine (alloc_ok w4 B G (k + 1) m ((k : Int) + 1) hS4.mem (by omega) (by omega) (by omega) k (fun j hj => hF.on hj) (by omega) hF.off).mono ?_
            rintro e w5 ⟨rfl, hg5⟩
            have hS5 := hS4.go hg5
            have hF5 := hF.succ ((k : Int) + 1)
            go_wp2_with fail
            refine (live_any w5 B G (k + 1) _ hS5.mem (by omega)).mono ?_
            rintro e w6 ⟨r, rfl, hO, hb6⟩
            rw [hF5.lives (Nat.le_refl _)] at hO
            have hS6 := hS5.below hb6
            have hc2 := cell_up (cell_mod HC.out.1 hg5.2 hg2G) hb6
            have hc1 : ∀ j, j < k → w6.cell? ⟨g, j, none⟩ = some (.int .i64 ((1000 + j : Nat) : Int)) := fun j hj => cell_up (cell_mod (HC.out.2 j hj) hg5.2 (Ne.symm hgG)) hb6
            obtain ⟨g3, cap3, rfl, hgb3, hgc3, hgl3⟩ := hO.some_of (by simp)
            have hc3 : ∀ j, j < k + 1 → w6.cell? ⟨g3, j, none⟩ = some (.int .i64 (j : Int)) := fun j hj => by rw [hO.cell (by simpa using hj), range_get hj]
            rw [List.length_range] at hgc3 ⊢
            have HB := hide hS6.bel
            have HC1 := hide (And.intro hc1 hc3)
            clear hO hS6 hS5 hS4 hb6 hg5 HC hc1 hc3
            go_wp2
            go_loop [9] (fun i => ∃ j : Nat, j ≤ k + 1 ∧ i = .int .i64 (j : Int)) (fun i => 65 - (intOf i).toNat)
            case atStart => exact ⟨0, by omega, rfl⟩
            case round =>
              obtain ⟨i, hi, rfl⟩ := hrel
              by_cases hlt : i < k
              · have hd : decide ((i : Int) ≤ (k : Int)) = true := by simp; omega
                have hd2 : decide ((i : Int) < (k : Int)) = true := by simp; omega
                have e1 := HC1.out.1 i hlt
                have e2 := HC1.out.2 i (by omega)
                go_wp2
                go_round
                case rel => exact ⟨i + 1, by omega, by go_num⟩
                case measure => simp [intOf]; omega
              · by_cases hle : i ≤ k
                · have hd : decide ((i : Int) ≤ (k : Int)) = true := by simp; omega
                  have hd2 : decide ((i : Int) < (k : Int)) = false := by simp; omega
                  have e2 := HC1.out.2 i (by omega)
                  go_wp2
                  go_round
                  case rel => exact ⟨i + 1, by omega, by go_num⟩
                  case measure => simp [intOf]; omega
                · have hd : decide ((i : Int) ≤ (k : Int)) = false := by simp; omega
                  go_wp2
                  go_ret
                  exact ⟨rfl, HB.out⟩
end Go.Proofs.Ytihkkbbphdgagaa
