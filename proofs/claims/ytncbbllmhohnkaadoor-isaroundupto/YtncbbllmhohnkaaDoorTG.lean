import Derived.Test.YtncbbllmhohnkaaDoorTF
namespace Go.Proofs.YtncbbllmhohnkaaDoor
open Go.RowKit
theorem tfl_len (na nb : Nat) (z f : Int) (h3 : na < 8) (h4 : nb < 8) (h5 : -32768 ≤ z) (h6 : z ≤ 65535) : (tfl na nb z f).length ≤ 7 := by
  have a1 := itoa_len (z := (na : Int)) (by omega) (by omega)
  have a2 := itoa_len (z := (nb : Int)) (by omega) (by omega)
  have a3 := itoa_len h5 h6
  unfold tfl
  split
  · simp; omega
  · split
    · simp; omega
    · omega
section
variable (w : World)
set_option maxRecDepth 100000 in
set_option maxHeartbeats 1000000 in
theorem tfl_any (no na nb : Nat) (z f : Int) (h3 : na < 8) (h4 : nb < 8) (h5 : -32768 ≤ z) (h6 : z ≤ 65535) (hT : Tb w) : Calls Tryd.prog 48 #[.agg #[.int .i64 (no : Int), .int .i64 (na : Int), .int .i64 (nb : Int), .int .i64 z], .int .i64 f] w fun e w' => e = .returned (.string ⟨(tfl na nb z f).toArray⟩) ∧ Below w.heap.size w w' := by
  have l1 := itoa_len (z := (na : Int)) (by omega) (by omega)
  have l2 := itoa_len (z := (nb : Int)) (by omega) (by omega)
  have l3 := itoa_len h5 h6
  have hS := hide (St.start no na nb z hT (Below.refl w.heap.size w))
  clear hT
  by_cases h0 : f = 0
  · have HL : Hid (tfl na nb z f = [114] ++ Lib.itoa (na : Int)) := hide (by simp [tfl, h0])
    subst h0
    go_enter Tryd.func48, Tryd.ntmps48
    go_wp2_with fail
    refine (Tryd.itoa (na : Int) (by omega) (by omega) _ hS.out.tb.pw).mono ?_
    rintro e w1 ⟨rfl, hb⟩
    have HB := hide ((hS.out.below hb).be)
    clear hb hS
    go_wp2
    go_ret
    exact ⟨by rw [HL.out, ← app_str]; rfl, HB.out⟩
  by_cases h1 : f = 1
  · have HL : Hid (tfl na nb z f = [114] ++ Lib.itoa (nb : Int)) := hide (by simp [tfl, h1])
    subst h1
    clear h0
    go_enter Tryd.func48, Tryd.ntmps48
    go_wp2_with fail
    refine (Tryd.itoa (nb : Int) (by omega) (by omega) _ hS.out.tb.pw).mono ?_
    rintro e w1 ⟨rfl, hb⟩
    have HB := hide ((hS.out.below hb).be)
    clear hb hS
    go_wp2
    go_ret
    exact ⟨by rw [HL.out, ← app_str]; rfl, HB.out⟩
  · have HL : Hid (tfl na nb z f = Lib.itoa z) := hide (by simp [tfl, h0, h1])
    go_enter Tryd.func48, Tryd.ntmps48
    go_wp2_with fail
    refine (Tryd.itoa z (by omega) (by omega) _ hS.out.tb.pw).mono ?_
    rintro e w1 ⟨rfl, hb⟩
    have HB := hide ((hS.out.below hb).be)
    clear hb hS
    go_wp2
    go_ret
    exact ⟨by rw [HL.out]; rfl, HB.out⟩
end
end Go.Proofs.YtncbbllmhohnkaaDoor
