import Derived.Test.YtohbhhdadcmicaaDoorI4
import Derived.Test.YtohbhhdadcmicaaDoorI5
namespace Go.Proofs.YtohbhhdadcmicaaDoor
open Go.RowKit
section
variable (w : World)
set_option maxRecDepth 100000 in
set_option maxHeartbeats 1000000 in
theorem rdec_any (n : Nat) (hn : n < 4294967296) : Calls Tryd.prog 19 #[.int .u32 (n : Nat)] w fun e w' => e = .returned (.tuple #[.agg (decI n).cells.toArray, .int .i64 (decE n)]) ∧ Below w.heap.size w w' := by
  have d0 : (n : Int) / 16777216 = (n / 16777216 : Nat) := by omega
  have d1 : (n : Int) / 1048576 % 16 = (n / 1048576 % 16 : Nat) := by omega
  have d2 : (n : Int) / 65536 % 16 = (n / 65536 % 16 : Nat) := by omega
  have d3 : (n : Int) % 65536 = (n % 65536 : Nat) := by omega
  have m1 : n / 1048576 % 16 < 16 := Nat.mod_lt _ (by decide)
  have m2 : n / 65536 % 16 < 16 := Nat.mod_lt _ (by decide)
  have m3 : n % 65536 < 65536 := Nat.mod_lt _ (by decide)
  have m0 : n / 16777216 < 256 := by omega
  have HP : Hid (parts n = ⟨(n / 16777216 : Nat), (n / 1048576 % 16 : Nat), (n / 65536 % 16 : Nat), if kd (n / 16777216) = 2 ∧ 32768 ≤ n % 65536 then ((n % 65536 : Nat) : Int) - 65536 else (n % 65536 : Nat)⟩) := hide rfl
  generalize n / 1048576 % 16 = na at *
  generalize n / 65536 % 16 = nb at *
  generalize n % 65536 = nm at *
  generalize n / 16777216 = no at *
  by_cases hr : no < 27
  · by_cases hk : kd no = 2
    · have hkr : kr no = 1 := by simp [kr, hk]
      by_cases hm : 32768 ≤ nm
      · have HP2 : Hid (parts n = ⟨(no : Int), na, nb, (nm : Int) - 65536⟩) := by apply hide; rw [HP.out]; congr 1; simp [hk, hm]
        clear HP
        have hm' : (32768 : Int) ≤ nm := by omega
        go_enter Tryd.func19, Tryd.ntmps19
        go_wp2_with fail
        refine (shape_in _ no hr).mono ?_
        rintro e w1 ⟨rfl, rfl⟩
        clear d0 d1 d2 d3
        go_wp2_with fail
        refine (rfits_any _ ⟨(no : Int), na, nb, (nm : Int) - 65536⟩).mono ?_
        rintro e w1 ⟨rfl, hb⟩
        obtain ⟨q0, q1, hB⟩ := two_blocks hb
        obtain ⟨hc, hf⟩ := bcell hb
        have HB := hide hB
        clear hb hB
        rcases hx : isI ⟨(no : Int), na, nb, ((nm : Int) - 65536)⟩ with _ | _
        · have E := hide (decI_no HP2.out hx)
          go_wp2
          refine bodyPost_ret (results_row2 rfl _ _ w.heap.size 40 #[.int .i64 0, .int .i64 0, .int .i64 0, .int .i64 0] (0, 0) _ rfl (set4 q0 _ _ _ _) Tryd.underlying40 rfl info_instr) rfl ?_
          exact ⟨by rw [E.out.1, E.out.2]; rfl, bel_set4 HB.out _ _ _ _⟩
        · have E := hide (decI_yes HP2.out hx)
          go_wp2
          refine bodyPost_ret (results_row2 rfl _ _ w.heap.size 40 #[.int .i64 (no : Int), .int .i64 (na : Int), .int .i64 (nb : Int), .int .i64 ((nm : Int) - 65536)] (0, 0) _ rfl (set4 q0 _ _ _ _) Tryd.underlying40 rfl info_instr) rfl ?_
          exact ⟨by rw [E.out.1, E.out.2]; rfl, bel_set4 HB.out _ _ _ _⟩
      · have HP2 : Hid (parts n = ⟨(no : Int), na, nb, (nm : Int)⟩) := by apply hide; rw [HP.out]; congr 1; simp [hk, hm]
        clear HP
        have hm' : decide ((32768 : Int) ≤ nm) = false := by simp; omega
        have hm2 : decide (32768 ≤ nm) = false := by simp; omega
        clear hm
        go_enter Tryd.func19, Tryd.ntmps19
        go_wp2_with fail
        refine (shape_in _ no hr).mono ?_
        rintro e w1 ⟨rfl, rfl⟩
        clear d0 d1 d2 d3
        go_wp2_with fail
        refine (rfits_any _ ⟨(no : Int), na, nb, (nm : Int)⟩).mono ?_
        rintro e w1 ⟨rfl, hb⟩
        obtain ⟨q0, q1, hB⟩ := two_blocks hb
        obtain ⟨hc, hf⟩ := bcell hb
        have HB := hide hB
        clear hb hB
        rcases hx : isI ⟨(no : Int), na, nb, (nm : Int)⟩ with _ | _
        · have E := hide (decI_no HP2.out hx)
          go_wp2
          refine bodyPost_ret (results_row2 rfl _ _ w.heap.size 40 #[.int .i64 0, .int .i64 0, .int .i64 0, .int .i64 0] (0, 0) _ rfl (set4 q0 _ _ _ _) Tryd.underlying40 rfl info_instr) rfl ?_
          exact ⟨by rw [E.out.1, E.out.2]; rfl, bel_set4 HB.out _ _ _ _⟩
        · have E := hide (decI_yes HP2.out hx)
          go_wp2
          refine bodyPost_ret (results_row2 rfl _ _ w.heap.size 40 #[.int .i64 (no : Int), .int .i64 (na : Int), .int .i64 (nb : Int), .int .i64 (nm : Int)] (0, 0) _ rfl (set4 q0 _ _ _ _) Tryd.underlying40 rfl info_instr) rfl ?_
          exact ⟨by rw [E.out.1, E.out.2]; rfl, bel_set4 HB.out _ _ _ _⟩
    · have hkr : ¬ (kr no : Int) = 1 := by
        have : kr no = 2 ∨ kr no = 0 := by unfold kr; rw [if_neg hk]; split <;> simp
        omega
      have HP2 : Hid (parts n = ⟨(no : Int), na, nb, (nm : Int)⟩) := by apply hide; rw [HP.out]; congr 1; simp [hk]
      clear HP
      go_enter Tryd.func19, Tryd.ntmps19
      go_wp2_with fail
      refine (shape_in _ no hr).mono ?_
      rintro e w1 ⟨rfl, rfl⟩
      clear d0 d1 d2 d3
      go_wp2_with fail
      refine (rfits_any _ ⟨(no : Int), na, nb, (nm : Int)⟩).mono ?_
      rintro e w1 ⟨rfl, hb⟩
      obtain ⟨q0, q1, hB⟩ := two_blocks hb
      obtain ⟨hc, hf⟩ := bcell hb
      have HB := hide hB
      clear hb hB
      rcases hx : isI ⟨(no : Int), na, nb, (nm : Int)⟩ with _ | _
      · have E := hide (decI_no HP2.out hx)
        go_wp2
        refine bodyPost_ret (results_row2 rfl _ _ w.heap.size 40 #[.int .i64 0, .int .i64 0, .int .i64 0, .int .i64 0] (0, 0) _ rfl (set4 q0 _ _ _ _) Tryd.underlying40 rfl info_instr) rfl ?_
        exact ⟨by rw [E.out.1, E.out.2]; rfl, bel_set4 HB.out _ _ _ _⟩
      · have E := hide (decI_yes HP2.out hx)
        go_wp2
        refine bodyPost_ret (results_row2 rfl _ _ w.heap.size 40 #[.int .i64 (no : Int), .int .i64 (na : Int), .int .i64 (nb : Int), .int .i64 (nm : Int)] (0, 0) _ rfl (set4 q0 _ _ _ _) Tryd.underlying40 rfl info_instr) rfl ?_
        exact ⟨by rw [E.out.1, E.out.2]; rfl, bel_set4 HB.out _ _ _ _⟩
  · have hk : kd no = 0 := kd_big (by omega)
    have HP2 : Hid (parts n = ⟨(no : Int), na, nb, (nm : Int)⟩) := by apply hide; rw [HP.out]; congr 1; simp [hk]
    clear HP
    go_enter Tryd.func19, Tryd.ntmps19
    go_wp2_with fail
    refine (shape_out _ (no : Int) (by omega)).mono ?_
    rintro e w1 ⟨rfl, rfl⟩
    clear d0 d1 d2 d3
    go_wp2_with fail
    refine (rfits_any _ ⟨(no : Int), na, nb, (nm : Int)⟩).mono ?_
    rintro e w1 ⟨rfl, hb⟩
    obtain ⟨q0, q1, hB⟩ := two_blocks hb
    obtain ⟨hc, hf⟩ := bcell hb
    have HB := hide hB
    clear hb hB
    rcases hx : isI ⟨(no : Int), na, nb, (nm : Int)⟩ with _ | _
    · have E := hide (decI_no HP2.out hx)
      go_wp2
      refine bodyPost_ret (results_row2 rfl _ _ w.heap.size 40 #[.int .i64 0, .int .i64 0, .int .i64 0, .int .i64 0] (0, 0) _ rfl (set4 q0 _ _ _ _) Tryd.underlying40 rfl info_instr) rfl ?_
      exact ⟨by rw [E.out.1, E.out.2]; rfl, bel_set4 HB.out _ _ _ _⟩
    · have E := hide (decI_yes HP2.out hx)
      go_wp2
      refine bodyPost_ret (results_row2 rfl _ _ w.heap.size 40 #[.int .i64 (no : Int), .int .i64 (na : Int), .int .i64 (nb : Int), .int .i64 (nm : Int)] (0, 0) _ rfl (set4 q0 _ _ _ _) Tryd.underlying40 rfl info_instr) rfl ?_
      exact ⟨by rw [E.out.1, E.out.2]; rfl, bel_set4 HB.out _ _ _ _⟩
end
end Go.Proofs.YtohbhhdadcmicaaDoor
