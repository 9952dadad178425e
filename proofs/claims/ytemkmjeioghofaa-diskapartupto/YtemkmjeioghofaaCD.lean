import Derived.Test.YtemkmjeioghofaaCC
namespace Go.Proofs.Ytemkmjeioghofaa
open Go.RowKit

set_option maxRecDepth 100000 in
set_option maxHeartbeats 1000000 in
theorem downed_any {B : Nat} {D : Dsk} {w : World} {F : Nat → Prop} (hd : DkA B D w F) (hw : D.down = true) :
    Calls Try.prog 28 #[dp B, .int .i64 5] w fun e w' => e = .returned (.bool true) ∧ DkA B D w' F ∧ Ext F w F w' := by
  have HD := hide hd
  have HO := hide (Dsk.off_of hw)
  clear hd
  go_enter Try.func28, Try.ntmps28
  go_wp2_with fail
  refine (read_down HD.out 5 (by omega) hw).mono ?_
  rintro e w1 ⟨rfl, rfl⟩
  go_wp2_with fail
  refine (down_any HD.out).mono ?_
  rw [hw]
  rintro e w2 ⟨rfl, rfl⟩
  go_wp2_with fail
  refine (full_any 1 _).mono ?_
  rintro e w3 ⟨r, rfl, hr, hb3⟩
  have hd3 := (good_dk _ _).below HD.out hb3
  obtain ⟨ao, cp, hrv⟩ := hr.len
  rw [List.length_replicate] at hrv
  subst hrv
  have Q3 := hide (And.intro hd3 hb3)
  clear hr hb3 hd3
  go_wp2_with fail
  refine (write_no Q3.out.1 5 cp ao (by omega) (.inl hw)).mono ?_
  rintro e w4 ⟨rfl, hd4, hx4⟩
  rw [HO.out] at hd4
  have Q4 := hide (And.intro hd4 ((Ext.of_below Q3.out.2).trans hx4))
  clear hd4 hx4 Q3
  go_wp2_with fail
  refine (flush_no Q4.out.1 (.inl hw)).mono ?_
  rintro e w5 ⟨rfl, hd5, hx5⟩
  rw [HO.out] at hd5
  have Q5 := hide (And.intro hd5 (Q4.out.2.trans hx5))
  clear hd5 hx5 Q4
  go_wp2_with fail
  refine (arm_down Q5.out.1 3 hw).mono ?_
  rintro e w6 ⟨rfl, rfl⟩
  go_wp2_with fail
  refine (raw_ok Q5.out.1 5 (by omega)).mono ?_
  rintro e w7 ⟨r7, rfl, hr7, hb7⟩
  have hl7 : (D.M 5).length = 128 := by
    obtain ⟨_, _, h, _⟩ := Q5.out.1
    exact (h.ok.m 5 (by omega)).1
  obtain ⟨a7, c7, hv7⟩ := hr7.len
  rw [hl7] at hv7
  subst hv7
  have Q7 := hide (And.intro ((good_dk _ _).below Q5.out.1 hb7) (Q5.out.2.trans (Ext.of_below hb7)))
  clear hr7 hb7 hl7 Q5
  go_wp2_with fail
  refine (arm_neg (-1) (by omega)).mono ?_
  rintro e w8 ⟨rfl, rfl⟩
  go_wp2_with fail
  refine (write_size B 5 0 0 none _ (by omega) (by omega)).mono ?_
  rintro e w9 ⟨rfl, rfl⟩
  go_wp2_with fail
  refine (write_out B (-1) (.slice none 0 0) _ (.inl (by omega))).mono ?_
  rintro e w10 ⟨rfl, rfl⟩
  go_wp2
  go_ret
  exact ⟨rfl, Q7.out.1, Q7.out.2⟩
end Go.Proofs.Ytemkmjeioghofaa
