import Derived.Test.YtngmnlmagbfijabCH
import Derived.Deep.CutBlock
namespace Go.Proofs.Ytngmnlmagbfijab
open Go.RowKit
/-- the map when all of R are known -/
def admD (f : Int → Option Kp) (R : List Int) : Int → Option Kp := fun x => if x ∈ R then some ((f x).getD (1, 0, false)) else f x
theorem admD_nil (f : Int → Option Kp) : admD f [] = f := by funext x; unfold admD; rw [if_neg (by simp)]
theorem admD_take {f : Int → Option Kp} {R : List Int} {k : Nat} (h : k < R.length) : admD f (R.take (k + 1)) = oneF (admD f (R.take k)) (R.getD k 0) := by
  funext x
  unfold oneF admD
  have hm : x ∈ R.take (k + 1) ↔ x ∈ R.take k ∨ x = R.getD k 0 := by
    rw [List.take_succ_eq_append_getElem h, getD_lt h, List.mem_append, List.mem_singleton]
  by_cases h1 : x = R.getD k 0
  · rw [if_pos (hm.2 (.inr h1)), if_pos h1]
    by_cases h2 : x ∈ R.take k
    · rw [if_pos h2]; rfl
    · rw [if_neg h2]
  · rw [if_neg h1]
    by_cases h2 : x ∈ R.take k
    · rw [if_pos (hm.2 (.inl h2)), if_pos h2]
    · rw [if_neg (fun h3 => (hm.1 h3).elim h2 h1), if_neg h2]
def pqD (kd : Nat) (last : Int) (h : Bool) (x : Rw) : Int := if kd = 2 ∧ h = true ∧ x.was = false then max x.ps last else if kd = 3 ∧ (h = false ∨ x.was = false) then 0 else x.ps
/-- a row gone through by a choice of R -/
def updD (kd : Nat) (last : Int) (R : List Int) (x : Rw) : Rw := ⟨x.se, x.wt, pqD kd last (decide (x.se ∈ R)) x, decide (x.se ∈ R)⟩
/-- the best of the first rows -/
def bstI (kd : Nat) (last : Int) (V : List Rw) : Nat → Option Nat
  | 0 => none
  | i + 1 => match V[i]? with
    | none => bstI kd last V i
    | some r => if r.was = true then (match bstI kd last V i with
      | none => some i
      | some b => match V[b]? with
        | none => some i
        | some q => if btD kd last q r = true then some b else some i) else bstI kd last V i
theorem bstI_lt (kd : Nat) (last : Int) (V : List Rw) : ∀ (i b : Nat), bstI kd last V i = some b → b < i ∧ ∃ x, V[b]? = some x ∧ x.was = true
  | 0, b, h => by simp [bstI] at h
  | i + 1, b, h => by
    unfold bstI at h
    have ih := bstI_lt kd last V i
    cases hr : V[i]? with
    | none => rw [hr] at h; have := ih b h; exact ⟨by omega, this.2⟩
    | some r =>
      rw [hr] at h
      dsimp only at h
      by_cases hw : r.was = true
      · rw [if_pos hw] at h
        cases hb : bstI kd last V i with
        | none => rw [hb] at h; simp at h; subst h; exact ⟨by omega, r, hr, hw⟩
        | some c =>
          rw [hb] at h
          obtain ⟨h1, q, h2, h3⟩ := ih c hb
          dsimp only at h
          rw [h2] at h
          dsimp only at h
          by_cases hbt : btD kd last q r = true
          · rw [if_pos hbt] at h; simp at h; subst h; exact ⟨by omega, q, h2, h3⟩
          · rw [if_neg hbt] at h; simp at h; subst h; exact ⟨by omega, r, hr, hw⟩
      · rw [if_neg hw] at h; have := ih b h; exact ⟨by omega, this.2⟩
theorem bstI_none (kd : Nat) (last : Int) (V : List Rw) : ∀ (i : Nat), bstI kd last V i = none → ∀ q, q < i → ∀ x, V[q]? = some x → x.was = false
  | 0, _, q, hq, _, _ => by omega
  | i + 1, h, q, hq, x, hx => by
    unfold bstI at h
    have ih := bstI_none kd last V i
    cases hr : V[i]? with
    | none =>
      rw [hr] at h
      rcases Nat.lt_or_ge q i with h9 | h9
      · exact ih h q h9 x hx
      · obtain rfl : q = i := by omega
        rw [hr] at hx; cases hx
    | some r =>
      rw [hr] at h
      dsimp only at h
      by_cases hw : r.was = true
      · rw [if_pos hw] at h
        cases hb : bstI kd last V i with
        | none => rw [hb] at h; simp at h
        | some c =>
          rw [hb] at h
          dsimp only at h
          cases hc : V[c]? with
          | none => rw [hc] at h; simp at h
          | some y =>
            rw [hc] at h
            dsimp only at h
            split at h <;> simp at h
      · rw [if_neg hw] at h
        rcases Nat.lt_or_ge q i with h9 | h9
        · exact ih h q h9 x hx
        · obtain rfl : q = i := by omega
          rw [hr] at hx; cases hx; simpa using hw
def bestV : Option Nat → Int
  | none => -1
  | some b => (b : Nat)
theorem mpd_lt (f : Rw → Rw) {L : List Rw} {q j : Nat} (h : j < q) (hq : q ≤ L.length) : (mpd f L q)[j]? = (L.map f)[j]? := by
  unfold mpd
  rw [List.getElem?_append_left (by simp; omega), List.getElem?_map, List.getElem?_map, List.getElem?_take_of_lt h]
/-- what Next may answer -/
def NxPost (w : World) (Y : Nat → Prop) (g kd n : Nat) (f : Int → Option Kp) (last : Int) (R : List Int) (e : Ending) (w' : World) : Prop :=
  (prB R = false ∧ e = .returned (.tuple #[.int .i64 0, .int .i64 1]) ∧ Below w.heap.size w w') ∨
  ((prB R = true ∧ R = []) ∧ e = .returned (.tuple #[.int .i64 0, .int .i64 91]) ∧ Below w.heap.size w w') ∨
  ((prB R = true ∧ R ≠ []) ∧ ∃ (L1 : List Rw) (b : Nat) (x : Rw) (Y' : Nat → Prop), e = .returned (.tuple #[.int .i64 x.se, .int .i64 0]) ∧ RelR L1 (admD f R) ∧ L1.length ≤ n + R.length ∧ bstI kd last (L1.map (updD kd last R)) L1.length = some b ∧ (L1.map (updD kd last R))[b]? = some x ∧ RfAt w' Y' g kd ((if kd = 3 then (L1.map (updD kd last R)).map (growR kd) else L1.map (updD kd last R)).set b (bestD kd x)) (lastD kd last x) ∧ Ext Y w Y' w')
section
variable (w : World)
set_option maxRecDepth 100000 in
set_option maxHeartbeats 32000000 in
theorem rnext_any (g kd n : Nat) (Y S : Nat → Prop) (f : Int → Option Kp) (last : Int) (hP : RfF w Y g kd f last n) (hkd : kd = 1 ∨ kd = 2 ∨ kd = 3) (v : Value) (R : List Int) (hR : Rd S w v R) (hS : ∀ b, S b → ¬ Y b ∧ b < w.heap.size) (hl : R.length ≤ 1048576) (hn : n ≤ 2097152)
    (hB : ∀ k u, f k = some u → 1 ≤ u.1 ∧ u.1 ≤ 8 ∧ 0 ≤ u.2.1 ∧ u.2.1 ≤ 1152921504606846976) (hla : kd = 2 → 0 ≤ last ∧ last ≤ 1152921504606846976) :
    Calls Try.prog 14 #[.pointer (some ⟨g, 0, none⟩), v] w fun e w' => NxPost w Y g kd n f last R e w' := by
  have HR := hide hR
  have HS := hide hS
  have HB := hide hB
  have HP := hide hP
  have HLa := hide hla
  clear hla
  obtain ⟨ao, cap, rfl, hcap⟩ := hR.len
  obtain ⟨m, hm⟩ : ∃ m, R.length = m := ⟨_, rfl⟩
  have HLn := hide hm
  have HI := hide (fun w S v R h1 h2 a => rin_any w S v R h1 h2 a)
  rw [hm] at hl hcap HR ⊢
  obtain ⟨res, hres⟩ : ∃ r, prB R = r := ⟨_, rfl⟩
  have HV := hide hres
  clear hR hm hres hS hB hP
  go_enter Try.func14, Try.ntmps14
  go_upto_region 2 with fail
  go_loopw [6] (fun i wr => ∃ k : Nat, k ≤ m ∧ i = .int .i64 (k : Nat) ∧ Hid (∀ j, j < k → 1 ≤ R.getD j 0 ∧ R.getD j 0 ∉ R.take j) ∧ Hid (Drews w wr)) (fun i _ => m - (RowKit.intOf i).toNat)
  case atStart => exact ⟨0, by omega, rfl, hide (fun i hi => by omega), hide (Drews.refl _)⟩
  case round =>
    obtain ⟨k, hk, rfl, HD, HW⟩ := hrel
    by_cases hlt : k < m
    · have hRr := HR.out.keep (w' := wr) (fun b _ => by rw [HW.out.heap])
      obtain ⟨x, rfl, _, hc⟩ := hRr.some_of (by rw [HLn.out]; omega)
      have d0 := hc k (by rw [HLn.out]; omega)
      have hki : (k : Int) < m := by omega
      have hkm : (k : Int) ≤ cap := by omega
      have hk0 : (0 : Int) ≤ k := by omega
      have hbad := prB_take (R := R) (k := k) (by rw [HLn.out]; exact hlt)
      have HTk : Hid (Rd S wr (.slice (some x) k cap) (R.take k)) := hide (by
        rcases hRr with ⟨h0, _⟩ | ⟨x', cap', h0, h1, h2⟩
        · cases h0
        · cases h0
          refine .inr ⟨x, cap, by rw [List.length_take, HLn.out, Nat.min_eq_left hk], by rw [List.length_take, HLn.out]; omega, fun i u hu => h2 i u ?_⟩
          rw [List.map_take] at hu
          exact List.getElem?_take_of_lt (by
            rcases Nat.lt_or_ge i k with h | h
            · exact h
            · rw [List.getElem?_take_eq_none (by omega)] at hu; cases hu) ▸ hu)
      obtain ⟨b, hb⟩ : ∃ b, R.getD k 0 = b := ⟨_, rfl⟩
      have HBb := hide hb
      rw [hb] at d0 hbad
      have HIn : Hid (∀ n, Calls Try.prog 25 #[.slice (some x) k cap, .int .i64 b] (wr.drewN n) fun e w' => e = .returned (.bool (decide (b ∈ R.take k))) ∧ w' = wr.drewN n) := hide (fun n => HI.out (wr.drewN n) S _ _ (HTk.out.keep (w' := wr.drewN n) (fun _ _ => rfl)) (by rw [List.length_take]; omega) b)
      clear hc hb hRr
      cases hd : decide (b ∈ R.take k) with
      | true =>
        rw [hd] at HIn
        have HF : Hid (prB R = false) := hide (hbad (.inr (by simpa using hd)))
        clear hbad hd
        go_upto_region 4 with fail
        go_quiet (first | (go_at_call 25; exact Calls.quiet_of_same (HIn.out _)))
        have d0 : (wr.drewN nq).cell? (x.add k) = some (.int .i64 b) := d0
        by_cases hb1 : b < 1
        · go_wp2
          go_ret2
          exact .inl ⟨HF.out, rfl, (HW.out.below _).trans (drewN_below _ _ _)⟩
        · go_wp2
          go_ret2
          exact .inl ⟨HF.out, rfl, (HW.out.below _).trans (drewN_below _ _ _)⟩
      | false =>
        rw [hd] at HIn
        by_cases hb1 : b < 1
        · have HF : Hid (prB R = false) := hide (hbad (.inl hb1))
          clear hbad hd
          go_upto_region 4 with fail
          go_quiet (first | (go_at_call 25; exact Calls.quiet_of_same (HIn.out _)))
          have d0 : (wr.drewN nq).cell? (x.add k) = some (.int .i64 b) := d0
          go_wp2
          go_ret2
          exact .inl ⟨HF.out, rfl, (HW.out.below _).trans (drewN_below _ _ _)⟩
        · have HBk : Hid (1 ≤ b) := hide (by omega)
          have HD2 : Hid (∀ j, j < k + 1 → 1 ≤ R.getD j 0 ∧ R.getD j 0 ∉ R.take j) := hide (fun j hj => by
            by_cases hjk : j = k
            · subst hjk; rw [HBb.out]; exact ⟨HBk.out, by simpa using hd⟩
            · exact HD.out j (by omega))
          clear hbad hd HD
          go_upto_region 4 with fail
          go_quiet (first | (go_at_call 25; exact Calls.quiet_of_same (HIn.out _)))
          have HW2 : Hid (Drews w (wr.drewN nq)) := hide (HW.out.trans ⟨nq, rfl⟩)
          have d0 : (wr.drewN nq).cell? (x.add k) = some (.int .i64 b) := d0
          clear HIn HTk
          go_wp2
          go_roundw
          case rel => exact ⟨k + 1, by omega, by go_num, HD2, HW2⟩
          case measure => simp [RowKit.intOf]; omega
    · obtain rfl : k = m := by omega
      have HT : Hid (prB R = true) := hide (prB_all (R := R) (by rw [HLn.out]; exact HD.out))
      by_cases hm0 : k = 0
      · subst hm0
        have HN : Hid (R = []) := hide (List.eq_nil_of_length_eq_zero HLn.out)
        go_wp2
        go_ret2
        exact .inr (.inl ⟨⟨HT.out, HN.out⟩, rfl, HW.out.below _⟩)
      · have HN : Hid (R ≠ []) := hide (fun h => hm0 (by rw [← HLn.out, h]; rfl))
        have hk1 : ((k : Int) == 0) = false := by simp; omega
        clear hm0
        obtain ⟨L0, hR0, hL0, hn0⟩ := HP.out
        have HE0 : Hid (Ext Y w Y wr) := hide ⟨(HW.out.mod Y), fun b hb => .inl hb⟩
        have HR0 := hide (hR0.below (HW.out.below w.heap.size))
        have HL0 := hide (And.intro hL0 hn0)
        have HWd := HW
        clear hR0 hL0 hn0
        go_upto_region 10 with fail
        go_loopw [8] (fun i wq => ∃ (q : Nat) (Y2 : Nat → Prop) (L2 : List Rw), q ≤ k ∧ i = .int .i64 (q : Nat) ∧ Hid (RfAt wq Y2 g kd L2 last ∧ RelR L2 (admD f (R.take q)) ∧ L2.length ≤ n + q) ∧ Hid (Ext Y w Y2 wq)) (fun i _ => k - (RowKit.intOf i).toNat)
        case atStart => exact ⟨0, Y, L0, by omega, rfl, hide ⟨HR0.out, by rw [List.take_zero, admD_nil]; exact HL0.out.1, by have := HL0.out.2; omega⟩, HE0⟩
        case round =>
          obtain ⟨q, Y2, L2, hq, rfl, HQ, HE⟩ := hrel
          by_cases hlt : q < k
          · obtain ⟨x, rfl, _, hc⟩ := (HR.out.keep (w' := wr) (fun b hb => HE.out.mod.block b (HS.out b hb).2 (HS.out b hb).1)).some_of (by rw [HLn.out]; omega)
            have d0 := hc q (by rw [HLn.out]; omega)
            have hqi : (q : Int) < k := by omega
            have hq0 : (0 : Int) ≤ q := by omega
            obtain ⟨b, hb⟩ : ∃ b, R.getD q 0 = b := ⟨_, rfl⟩
            rw [hb] at d0
            have HA : Hid (admD f (R.take (q + 1)) = oneF (admD f (R.take q)) b) := hide (by rw [← hb]; exact admD_take (by rw [HLn.out]; exact hlt))
            have hlen := rowP_len L2 b
            have HLe := hide hlen
            clear hc hb hlen
            go_wp2_with fail
            refine (row_any wr g kd Y2 L2 last HQ.out.1 b (by have := HQ.out.2.2; omega)).mono ?_
            rintro e w5 ⟨rfl, Y5, h5, h6⟩
            have HQ5 : Hid (RfAt w5 Y5 g kd (rowP L2 b) last ∧ RelR (rowP L2 b) (admD f (R.take (q + 1))) ∧ (rowP L2 b).length ≤ n + (q + 1)) := hide ⟨h5, by rw [HA.out]; exact (HQ.out.2.1.row b).1, by have := HQ.out.2.2; have := HLe.out; omega⟩
            have HE5 := hide (HE.out.trans h6)
            clear h5 h6 d0
            go_wp2
            go_roundw
            case rel => exact ⟨q + 1, Y5, rowP L2 b, by omega, by go_num, HQ5, HE5⟩
            case measure => simp [RowKit.intOf]; omega
          · obtain rfl : q = k := by omega
            obtain ⟨hQ1, hQ2, hQ3⟩ := HQ.out
            rw [List.take_of_length_le (by rw [HLn.out]; exact Nat.le_refl _)] at hQ2
            obtain ⟨v2, hM2⟩ := hQ1
            obtain ⟨m1, hm1⟩ : ∃ z, L2.length = z := ⟨_, rfl⟩
            obtain ⟨a2, c2', rfl⟩ : ∃ a c, v2 = .slice a m1 c := by
              obtain ⟨a, c, h⟩ := hM2.shape
              exact ⟨a, c, by rw [h, hm1]⟩
            have HM1 := hide hm1
            have HRel := hide hQ2
            have HM2 := hide hM2
            have hm1l : m1 ≤ 3145728 := by omega
            have HM1n : Hid (L2.length ≤ n + q) := hide hQ3
            have hmL := HM1
            have HRd := hide (HR.out.keep (w' := wr) (fun b hb => HE.out.mod.block b (HS.out b hb).2 (HS.out b hb).1))
            have HSz : Hid (∀ b, S b → b < wr.heap.size ∧ ¬ Y2 b) := hide (fun b hb => ⟨Nat.lt_of_lt_of_le (HS.out b hb).2 HE.out.mod.size, fun h => by
              rcases HE.out.new b h with h9 | h9
              · exact (HS.out b hb).1 h9
              · have := (HS.out b hb).2; omega⟩)
            have HBd : Hid (∀ x ∈ L2, 1 ≤ x.wt ∧ x.wt ≤ 8 ∧ 0 ≤ x.ps ∧ x.ps ≤ 1152921504606846976) := hide (fun x hx => by
              have h1 := hQ2.val x hx
              unfold admD at h1
              by_cases h2 : x.se ∈ R
              · rw [if_pos h2] at h1
                cases hf : f x.se with
                | none => rw [hf] at h1; have h3 := Option.some.inj h1; unfold Rw.kp at h3; simp at h3; omega
                | some u => rw [hf] at h1; have h3 := Option.some.inj h1; have h4 := HB.out _ _ hf; unfold Rw.kp at h3; simp at h3; subst h3; exact h4
              · rw [if_neg h2] at h1
                exact HB.out _ _ h1)
            obtain ⟨V, hV⟩ : ∃ V, L2.map (updD kd last R) = V := ⟨_, rfl⟩
            have HVe := hide hV
            have HVb : Hid (∀ x ∈ V, 0 ≤ x.wt ∧ x.wt ≤ 8 ∧ 0 ≤ x.ps ∧ x.ps ≤ 4611686018427387904) := hide (fun x hx => by
              rw [← hV, List.mem_map] at hx
              obtain ⟨y, hy, rfl⟩ := hx
              have h1 := HBd.out y hy
              have h2 : 0 ≤ pqD kd last (decide (y.se ∈ R)) y ∧ pqD kd last (decide (y.se ∈ R)) y ≤ 4611686018427387904 := by
                unfold pqD
                split
                · rename_i h9
                  have := HLa.out h9.1
                  omega
                · split <;> omega
              exact ⟨by unfold updD; dsimp only; omega, h1.2.1, h2.1, h2.2⟩)
            have HVs : Hid (∀ x ∈ V, 1 ≤ x.wt ∧ x.wt ≤ 8) := hide (fun x hx => by
              rw [← hV, List.mem_map] at hx
              obtain ⟨y, hy, rfl⟩ := hx
              have h1 := HBd.out y hy
              exact ⟨h1.1, h1.2.1⟩)
            have HVl : Hid (V.length = m1) := hide (by rw [← hV, List.length_map, hm1])
            obtain ⟨w2, hw2⟩ : ∃ z, z = wr := ⟨_, rfl⟩
            rw [← hw2] at HE HM2 HRd HSz ⊢
            clear hw2 hQ2 hQ3 hm1 hM2 HQ hV HE0 HR0 HL0 HP
            have HM0 : Hid (RfM w2 Y2 g (.slice a2 m1 c2') kd (mpd (updD kd last R) L2 0) last) := HM2
            obtain ⟨c0, c1, c2⟩ := HM2.out.c
            go_upto_region 15 with fail
            clear c0 c1 c2
            go_loopw [9, 10] (fun bv i wq => ∃ j : Nat, j ≤ m1 ∧ i = .int .i64 (j : Nat) ∧ bv = .int .i64 (bestV (bstI kd last V j)) ∧ Hid (RfM wq Y2 g (.slice a2 m1 c2') kd (mpd (updD kd last R) L2 j) last) ∧ Hid (Mod Y2 w2 wq)) (fun _ i _ => m1 - (RowKit.intOf i).toNat)
            case atStart => exact ⟨0, by omega, rfl, rfl, HM0, hide (Mod.refl _ _)⟩
            case round =>
              obtain ⟨j, hj, rfl, hbv, HMj, HMo⟩ := hrel
              subst hbv
              obtain ⟨c0, c1, c2⟩ := HMj.out.c
              by_cases hlt2 : j < m1
              · obtain ⟨x, hx⟩ : ∃ x, L2[j]? = some x := ⟨L2[j]'(by rw [HM1.out]; exact hlt2), List.getElem?_eq_getElem _⟩
                have hg := mpd_get (updD kd last R) hx
                have HG := hide hg
                have HSu := hide (mpd_succ (updD kd last R) hx)
                have hxb := HBd.out x (List.mem_of_getElem? hx)
                obtain ⟨r, rfl, hYr, hrg, d0, d1, d2, d3, hfz, _⟩ := HMj.out.at hg
                have HVx : Hid (V[j]? = some (updD kd last R x)) := hide (by rw [← HVe.out, List.getElem?_map, hx]; rfl)
                have hji : (j : Int) < m1 := by omega
                have HRg := hide hrg
                obtain ⟨xs, xw, xp, xb⟩ := x
                dsimp only at d0 d1 d2 d3 hxb
                obtain ⟨A, hA⟩ : ∃ A, wr.heap.size = A := ⟨_, rfl⟩
                have hb1 : Below wr.heap.size wr (wr.alloc (.cells #[.int .i64 xs, .int .i64 xw, .int .i64 xp, .bool xb] 69)) := (Below.refl _ _).alloc (Nat.le_refl _) _
                have HRow : Hid ((wr.alloc (.cells #[.int .i64 xs, .int .i64 xw, .int .i64 xp, .bool xb] 69)).heap[A]? = some (.cells #[.int .i64 xs, .int .i64 xw, .int .i64 xp, .bool xb] 69 (0, 0))) := hide (by rw [← hA]; exact heap_alloc_last _ _)
                have HM3 := hide (HMj.out.below hb1)
                have HMo3 := hide (HMo.out.trans (Mod.of_below hb1))
                have HRd3 := hide ((HRd.out.keep (w' := wr) (fun b hb => HMo.out.block b (HSz.out b hb).1 (HSz.out b hb).2)).keep (w' := wr.alloc (.cells #[.int .i64 xs, .int .i64 xw, .int .i64 xp, .bool xb] 69)) (fun b hb => hb1.block b (by have := (HSz.out b hb).1; have := HMo.out.size; omega)))
                clear hb1 hx hg hfz hrg hYr
                go_upto_region 18 with fail
                generalize wr.alloc (.cells #[.int .i64 xs, .int .i64 xw, .int .i64 xp, .bool xb] 69) = w3 at *
                clear hA c0 c1 c2 d0 d1 d2 d3 HMj HMo
                have e0 := cell_of_row _ _ 0 _ _ _ HRow.out
                have e2 := cell_of_row _ _ 2 _ _ _ HRow.out
                have e3 := cell_of_row _ _ 3 _ _ _ HRow.out
                simp only [List.getElem?_toArray, List.getElem?_cons_zero, List.getElem?_cons_succ] at e0 e2 e3
                obtain ⟨c0, c1, c2⟩ := HM3.out.c
                obtain ⟨r', hr', _, _, d0, d1, d2, d3, hfz, _⟩ := HM3.out.at HG.out
                cases hr'
                dsimp only at d0 d1 d2 d3
                have hf2 := hfz (j * 4 + 2)
                go_wp2_with fail
                refine (HI.out w3 S _ R HRd3.out (by rw [HLn.out]; omega) xs).mono ?_
                rintro e w5 ⟨rfl, rfl⟩
                obtain ⟨h, hh⟩ : ∃ h, decide (xs ∈ R) = h := ⟨_, rfl⟩
                have HH := hide hh
                rw [hh]
                obtain ⟨pq, hpq⟩ : ∃ z, pqD kd last h ⟨xs, xw, xp, xb⟩ = z := ⟨_, rfl⟩
                have HPq := hide hpq
                clear hh hpq hfz d0 d1 d3
                go_upto_block 6 with fail
                go_cut [72] from 73 to 121 (fun v wx => Hid (RfM wx Y2 g (.slice (some ⟨r, 0, none⟩) m1 c2') kd ((mpd (updD kd last R) L2 j).set j ⟨xs, xw, pq, xb⟩) last ∧ Mod Y2 w5 wx))
                case first =>
                  have HSame : Hid (pq = xp → RfM w5 Y2 g (.slice (some ⟨r, 0, none⟩) m1 c2') kd ((mpd (updD kd last R) L2 j).set j ⟨xs, xw, pq, xb⟩) last ∧ Mod Y2 w5 w5) := hide (fun e => by
                    have e9 : (mpd (updD kd last R) L2 j).set j ⟨xs, xw, pq, xb⟩ = mpd (updD kd last R) L2 j := by
                      obtain ⟨h8, h7⟩ := List.getElem?_eq_some_iff.1 HG.out
                      rw [e, ← h7]; exact List.set_getElem_self _
                    rw [e9]; exact ⟨HM3.out, Mod.refl _ _⟩)
                  have HDif : Hid (∀ (p : Int) (t : Nat), pq = p → RfM ((w5.drewN t).setCell ⟨r, j * 4 + 2, none⟩ (.int .i64 p)) Y2 g (.slice (some ⟨r, 0, none⟩) m1 c2') kd ((mpd (updD kd last R) L2 j).set j ⟨xs, xw, pq, xb⟩) last ∧ Mod Y2 w5 ((w5.drewN t).setCell ⟨r, j * 4 + 2, none⟩ (.int .i64 p))) := hide (fun p t e => by
                    subst e
                    have h9 := (HM3.out.below (drewN_below w5 _ t)).store (j := j * 4 + 2) (u := .int .i64 pq) (L' := (mpd (updD kd last R) L2 j).set j ⟨xs, xw, pq, xb⟩) HRg.out (rws_set2 _ j _ _ HG.out) (by simp)
                    exact ⟨h9.1, (Mod.of_below (drewN_below w5 _ t)).trans h9.2⟩)
                  rcases hkd with rfl | rfl | rfl
                  · cases h with
                    | true =>
                      cases xb with
                      | true =>
                        have hpv : pq = xp := by rw [← HPq.out]; unfold pqD; rw [if_neg (by simp), if_neg (by simp)]
                        have HF := hide (HSame.out hpv)
                        clear hpv
                        go_wp2_with fail
                        go_meet
                        case rel => exact HF
                      | false =>
                        have hpv : pq = xp := by rw [← HPq.out]; unfold pqD; rw [if_neg (by simp), if_neg (by simp)]
                        have HF := hide (HSame.out hpv)
                        clear hpv
                        go_wp2_with fail
                        go_meet
                        case rel => exact HF
                    | false =>
                      cases xb with
                      | true =>
                        have hpv : pq = xp := by rw [← HPq.out]; unfold pqD; rw [if_neg (by simp), if_neg (by simp)]
                        have HF := hide (HSame.out hpv)
                        clear hpv
                        go_wp2_with fail
                        go_meet
                        case rel => exact HF
                      | false =>
                        have hpv : pq = xp := by rw [← HPq.out]; unfold pqD; rw [if_neg (by simp), if_neg (by simp)]
                        have HF := hide (HSame.out hpv)
                        clear hpv
                        go_wp2_with fail
                        go_meet
                        case rel => exact HF
                  · cases h with
                    | true =>
                      cases xb with
                      | true =>
                        have hpv : pq = xp := by rw [← HPq.out]; unfold pqD; rw [if_neg (by simp), if_neg (by simp)]
                        have HF := hide (HSame.out hpv)
                        clear hpv
                        go_wp2_with fail
                        go_meet
                        case rel => exact HF
                      | false =>
                        have hpv : pq = max xp last := by rw [← HPq.out]; unfold pqD; rw [if_pos ⟨rfl, rfl, rfl⟩]
                        have h9 := HDif.out _ 0 hpv
                        have HF : Hid (RfM (w5.setCell ⟨r, j * 4 + 2, none⟩ (.int .i64 (max xp last))).drew Y2 g (.slice (some ⟨r, 0, none⟩) m1 c2') 2 ((mpd (updD 2 last R) L2 j).set j ⟨xs, xw, pq, false⟩) last ∧ Mod Y2 w5 (w5.setCell ⟨r, j * 4 + 2, none⟩ (.int .i64 (max xp last))).drew) := hide ⟨h9.1.below (drewN_below _ _ 1), h9.2.trans (Mod.of_below (drewN_below _ _ 1))⟩
                        clear h9 hpv
                        go_upto_region 20 with fail
                        go_region
                        go_wp2_with fail
                        go_meet
                        case rel => exact HF
                    | false =>
                      cases xb with
                      | true =>
                        have hpv : pq = xp := by rw [← HPq.out]; unfold pqD; rw [if_neg (by simp), if_neg (by simp)]
                        have HF := hide (HSame.out hpv)
                        clear hpv
                        go_wp2_with fail
                        go_meet
                        case rel => exact HF
                      | false =>
                        have hpv : pq = xp := by rw [← HPq.out]; unfold pqD; rw [if_neg (by simp), if_neg (by simp)]
                        have HF := hide (HSame.out hpv)
                        clear hpv
                        go_wp2_with fail
                        go_meet
                        case rel => exact HF
                  · cases h with
                    | true =>
                      cases xb with
                      | true =>
                        have hpv : pq = xp := by rw [← HPq.out]; unfold pqD; rw [if_neg (by simp), if_neg (by simp)]
                        have HF := hide (HSame.out hpv)
                        clear hpv
                        go_wp2_with fail
                        go_meet
                        case rel => exact HF
                      | false =>
                        have hpv : pq = 0 := by rw [← HPq.out]; unfold pqD; rw [if_neg (by simp), if_pos (by simp)]
                        have HF := hide (HDif.out 0 0 hpv)
                        clear hpv
                        go_wp2_with fail
                        go_meet
                        case rel => exact HF
                    | false =>
                      cases xb with
                      | true =>
                        have hpv : pq = 0 := by rw [← HPq.out]; unfold pqD; rw [if_neg (by simp), if_pos (by simp)]
                        have HF := hide (HDif.out 0 0 hpv)
                        clear hpv
                        go_wp2_with fail
                        go_meet
                        case rel => exact HF
                      | false =>
                        have hpv : pq = 0 := by rw [← HPq.out]; unfold pqD; rw [if_neg (by simp), if_pos (by simp)]
                        have HF := hide (HDif.out 0 0 hpv)
                        clear hpv
                        go_wp2_with fail
                        go_meet
                        case rel => exact HF
                case rest =>
                  clear e0 e2 e3 c0 c1 c2 d2 hf2 HM3 HRow HRd3
                  have HMc := hide hcut.out.1
                  have HMoc := hide (HMo3.out.trans hcut.out.2)
                  have hgc : ((mpd (updD kd last R) L2 j).set j ⟨xs, xw, pq, xb⟩)[j]? = some ⟨xs, xw, pq, xb⟩ := List.getElem?_set_self (List.getElem?_eq_some_iff.1 HG.out).1
                  obtain ⟨r', hr', _, _, d0, d1, d2, d3, hfz, _⟩ := HMc.out.at hgc
                  cases hr'
                  obtain ⟨c0, c1, c2⟩ := HMc.out.c
                  have hf3 := hfz (j * 4 + 3)
                  have hst := HMc.out.store (j := j * 4 + 3) (u := .bool h) (L' := ((mpd (updD kd last R) L2 j).set j ⟨xs, xw, pq, xb⟩).set j ⟨xs, xw, pq, h⟩) HRg.out (rws_set3 _ j _ _ hgc) (by simp)
                  have HMs : Hid (RfM (wc.setCell ⟨r, j * 4 + 3, none⟩ (.bool h)) Y2 g (.slice (some ⟨r, 0, none⟩) m1 c2') kd (mpd (updD kd last R) L2 (j + 1)) last) := hide (by
                    have e9 : ((mpd (updD kd last R) L2 j).set j ⟨xs, xw, pq, xb⟩).set j ⟨xs, xw, pq, h⟩ = mpd (updD kd last R) L2 (j + 1) := by
                      rw [List.set_set, HSu.out]
                      congr 1
                      unfold updD
                      dsimp only
                      rw [HH.out, HPq.out]
                    rw [← e9]; exact hst.1)
                  have HMos := hide (HMoc.out.trans hst.2)
                  dsimp only at d0 d1 d2 d3
                  clear hcut hgc hst hfz HMc HMoc HMo3
                  go_upto_region 24 with fail
                  generalize wc.setCell ⟨r, j * 4 + 3, none⟩ (.bool h) = w6 at *
                  clear c0 c1 c2 d0 d1 d2 d3 hf3
                  have HVj : Hid (V[j]? = some ⟨xs, xw, pq, h⟩) := hide (by rw [HVx.out]; unfold updD; dsimp only; rw [HH.out, HPq.out])
                  cases h with
                  | false =>
                    have HBe : Hid (bstI kd last V (j + 1) = bstI kd last V j) := hide (by rw [bstI, HVj.out]; rfl)
                    go_wp2
                    go_roundw
                    case rel => exact ⟨j + 1, by omega, by go_num, by rw [HBe.out], HMs, HMos⟩
                    case measure => simp [RowKit.intOf]; omega
                  | true =>
                    cases hbo : bstI kd last V j with
                    | none =>
                      have HBe : Hid (bstI kd last V (j + 1) = some j) := hide (by rw [bstI, HVj.out]; simp [hbo])
                      clear hbo
                      unfold bestV
                      dsimp only
                      go_wp2
                      go_roundw
                      case rel => exact ⟨j + 1, by omega, by go_num, by rw [HBe.out]; rfl, HMs, HMos⟩
                      case measure => simp [RowKit.intOf]; omega
                    | some bi =>
                      obtain ⟨hbl, y, hy, hyw⟩ := bstI_lt kd last V j bi hbo
                      have hyl := List.mem_of_getElem? hy
                      have hM6 := HMs.out
                      have hgy : (mpd (updD kd last R) L2 (j + 1))[bi]? = some y := by rw [mpd_lt _ (by omega) (by rw [HM1.out]; omega), HVe.out]; exact hy
                      have hgj : (mpd (updD kd last R) L2 (j + 1))[j]? = some ⟨xs, xw, pq, true⟩ := by rw [mpd_lt _ (by omega) (by rw [HM1.out]; omega), HVe.out]; exact HVj.out
                      obtain ⟨r', hr', _, _, d0, d1, d2, d3, _, _⟩ := hM6.at hgy
                      cases hr'
                      obtain ⟨r', hr', _, _, e0, e1, e2, e3, _, _⟩ := hM6.at hgj
                      cases hr'
                      obtain ⟨c0, c1, c2⟩ := hM6.c
                      obtain ⟨bt, hbt⟩ : ∃ z, btD kd last y ⟨xs, xw, pq, true⟩ = z := ⟨_, rfl⟩
                      have HBe : Hid (bstI kd last V (j + 1) = if bt = true then some bi else some j) := hide (by rw [bstI, HVj.out]; simp [hbo, hy, hbt])
                      have HSt : Hid (∀ W, Below w6.heap.size w6 W → Calls Try.prog 26 #[.pointer (some ⟨g, 0, none⟩), .agg #[.int .i64 y.se, .int .i64 y.wt, .int .i64 y.ps, .bool y.was], .agg #[.int .i64 xs, .int .i64 xw, .int .i64 pq, .bool true]] W fun e w' => e = .returned (.bool bt) ∧ Below W.heap.size W w') := hide (fun W hW => by
                        have h9 := better_any W g kd Y2 _ last ⟨_, hM6.below hW⟩ hkd y ⟨xs, xw, pq, true⟩ (HVb.out y hyl) (HVb.out _ (List.mem_of_getElem? HVj.out))
                        rw [hbt] at h9
                        exact h9)
                      have hbi : (bi : Int) < m1 := by omega
                      have hb0 : ¬ ((bi : Nat) : Int) < 0 := by omega
                      obtain ⟨ys, yw, yp, yb⟩ := y
                      dsimp only at d0 d1 d2 d3 e0 e1 e2 e3 HSt
                      clear hbo hy hyw hyl hM6 hgy hgj hbt
                      unfold bestV
                      dsimp only
                      go_upto_region 27 with fail
                      go_region_with (refine (HSt.out _ ((Below.refl _ _).drew)).mono ?_; rintro e9 w9 ⟨rfl, hb9⟩)
                      all_goals
                        have HM9 := hide ((HMs.out.below ((Below.refl _ _).drew)).below hb9)
                        have HMo9 := hide ((HMos.out.trans (Mod.of_below ((Below.refl w6.heap.size w6).drew))).trans (Mod.of_below hb9))
                        clear hb9 d0 d1 d2 d3 e0 e1 e2 e3 c0 c1 c2
                        cases bt
                        all_goals
                          go_wp2
                          go_roundw
                          case rel => exact ⟨j + 1, by omega, by go_num, by rw [HBe.out]; rfl, HM9, HMo9⟩
                          case measure => simp [RowKit.intOf]; omega
              · obtain rfl : j = m1 := by omega
                have HAll : Hid (mpd (updD kd last R) L2 j = V) := hide (by rw [← HM1.out, ← HVe.out]; exact mpd_all _ _)
                obtain ⟨b, hbo⟩ : ∃ b, bstI kd last V j = some b := by
                  cases hb : bstI kd last V j with
                  | some b => exact ⟨b, rfl⟩
                  | none =>
                    exfalso
                    obtain ⟨z, hz⟩ : ∃ z, z ∈ R := List.exists_mem_of_ne_nil _ HN.out
                    obtain ⟨y, hy, hyz⟩ := HRel.out.all z (by unfold admD; rw [if_pos hz]; rfl)
                    obtain ⟨i, hi, rfl⟩ := List.getElem_of_mem hy
                    have h9 := bstI_none kd last V j hb i (by rw [← HM1.out]; exact hi) (updD kd last R L2[i]) (by rw [← HVe.out, List.getElem?_map, List.getElem?_eq_getElem hi]; rfl)
                    unfold updD at h9
                    dsimp only at h9
                    rw [hyz] at h9
                    simp [hz] at h9
                obtain ⟨hbl, x, hx, hxw⟩ := bstI_lt kd last V j b hbo
                have hMv := HMj.out
                rw [HAll.out] at hMv
                have HMv := hide hMv
                have HBo := hide (And.intro hbo (And.intro hx hbl))
                have hxs := HVs.out x (List.mem_of_getElem? hx)
                clear hMv HMj
                rw [hbo]
                unfold bestV
                dsimp only
                clear hbo
                go_wp2_with fail
                refine (grown_any wr g kd Y2 V last ⟨_, HMv.out⟩ hkd b x hx (by rw [HVl.out]; omega) hxs (fun r hr => ⟨(HVb.out r hr).2.2.1, (HVb.out r hr).2.2.2⟩)).mono ?_
                rintro e w7 ⟨rfl, h7, h8⟩
                obtain ⟨v7, hM7⟩ := h7
                have HM7 := hide hM7
                have HMo7 := hide (HMo.out.trans h8)
                have hlen : ((if kd = 3 then V.map (growR kd) else V).set b (bestD kd x)).length = j := by rw [List.length_set]; split <;> simp [HVl.out]
                obtain ⟨a7, c7, rfl⟩ : ∃ a c, v7 = .slice a j c := by
                  obtain ⟨a, c, h⟩ := hM7.shape
                  exact ⟨a, c, by rw [h, hlen]⟩
                have hg7 : ((if kd = 3 then V.map (growR kd) else V).set b (bestD kd x))[b]? = some (bestD kd x) := List.getElem?_set_self (by rw [List.length_set] at hlen; omega)
                obtain ⟨r7, rfl, _, _, d0, _, _, _, _, _⟩ := hM7.at hg7
                obtain ⟨k0, k1, k2⟩ := hM7.c
                have hse : (bestD kd x).se = x.se := by unfold bestD growR; split <;> (try split) <;> (try split) <;> rfl
                rw [hse] at d0
                obtain ⟨xs, hxs2⟩ : ∃ z, x.se = z := ⟨_, rfl⟩
                have HXs := hide hxs2
                rw [hxs2] at d0
                have hbi : (b : Int) < j := by omega
                have hb0 : (0 : Int) ≤ b := by omega
                clear hM7 h8 hlen hg7 hse hxs hx hxw hxs2
                go_wp2
                go_ret2
                refine .inr (.inr ⟨⟨HT.out, HN.out⟩, L2, b, x, Y2, ?_, HRel.out, by rw [HLn.out]; exact HM1n.out, by rw [HVe.out, HM1.out]; exact HBo.out.1, by rw [HVe.out]; exact HBo.out.2.1, by rw [HVe.out]; exact ⟨_, HM7.out⟩, HE.out.trans ⟨HMo7.out, fun b hb => .inl hb⟩⟩)
                rw [HXs.out]; rfl
end
end Go.Proofs.Ytngmnlmagbfijab
