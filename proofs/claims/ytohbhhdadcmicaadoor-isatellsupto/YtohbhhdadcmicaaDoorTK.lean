import Derived.Test.YtohbhhdadcmicaaDoorTJ
namespace Go.Proofs.YtohbhhdadcmicaaDoor
open Go.RowKit
section
variable (w : World)
set_option maxRecDepth 100000 in
set_option maxHeartbeats 1000000 in
theorem tells_walk (ao : Option Addr) (cap : Nat) (ns : List Nat) (hn : ∀ x ∈ ns, x < 4294967296) (hl : ns.length ≤ 1048576) (hW : Wd w ao ns) (ha : ao = none → ns.length = 0 ∧ cap = 0) (hT : Tb w) : Calls Tryd.prog 3 #[.slice ao ns.length cap] w fun e w' => e = .returned (.bool true) ∧ Below w.heap.size w w' := by
  go_enter Tryd.func3, Tryd.ntmps3
  go_wp2_with fail
  refine (words_any _ ao cap ns hl hW ha).mono ?_
  rintro e w1 ⟨bo, cb, rfl, hW1, hb1⟩
  go_wp2_with fail
  refine (dis_any _ bo cb ns hn hl hW1 (hT.below hb1)).mono ?_
  rintro e w2 ⟨rfl, hb2⟩
  have hb02 := hb1.trans (hb2.mono hb1.size)
  go_wp2_with fail
  refine (rdis_any _ ao cap ns hn hl (hW.below hb02) (hT.below hb02)).mono ?_
  rintro e w3 ⟨rfl, hb3⟩
  have HB3 := hide (hb02.trans (hb3.mono hb02.size))
  have HV := hide ((hW1.below hb2).below hb3)
  generalize tls ns = T at *
  clear hb1 hb2 hb3 hb02 hW1 ha
  go_wp2_with fail
  refine (same_any _ bo ao cb cap ns hl HV.out (hW.below HB3.out)).mono ?_
  rintro e w4 ⟨rfl, hb4⟩
  have HB4 := hide (HB3.out.trans (hb4.mono HB3.out.size))
  clear hb4 HB3 HV hW
  go_wp2
  go_ret
  exact ⟨rfl, HB4.out⟩
end
end Go.Proofs.YtohbhhdadcmicaaDoor
