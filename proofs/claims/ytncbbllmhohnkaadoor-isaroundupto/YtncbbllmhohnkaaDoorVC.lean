import Derived.Test.YtncbbllmhohnkaaDoorVB
import Derived.Test.YtncbbllmhohnkaaDoorUX
import Derived.Test.YtncbbllmhohnkaaDoorTJ
import Derived.Test.YtncbbllmhohnkaaDoorK1
namespace Go.Proofs.YtncbbllmhohnkaaDoor
open Go.RowKit
theorem Wd.of {W : World} {base : Nat} {v : Value} {ns : List Nat} (h : W.ownsRow base 29 1 v ns.length (wds ns)) : ∃ ao c, v = .slice ao ns.length c ∧ Wd W ao ns := by
  rcases h.2 with ⟨h1, h2⟩ | ⟨g, cap, cur, h1, _, h3, _, _, _, h7⟩
  · exact ⟨none, 0, by rw [h1, h2], fun j hj => by omega⟩
  · refine ⟨_, _, h1, fun j hj => ⟨⟨g, 0, none⟩, rfl, ?_⟩⟩
    rw [add0, Lib.cell_of_heap h3]
    have e : (wds ns)[j]? = some (.int .u32 (ns[j] : Nat)) := by simp [wds, hj]
    rw [← h7, List.getElem?_take] at e
    split at e
    · rw [← Array.getElem?_toList]; exact e
    · simp at e
section
variable (w : World)
/-- what is told, made into words -/
theorem asm_back (ns : List Nat) (hn : ∀ x ∈ ns, x < 4294967296) (hl : ns.length ≤ 512) (hO : Ops w) : Calls Tryd.prog 10 #[.string ⟨(tls ns).toArray⟩] w fun e w' => ∃ v, e = .returned (.tuple #[v, .int .i64 0, .int .i64 0]) ∧ w'.ownsRow w.heap.size 29 1 v ns.length (wds ns) ∧ Below w.heap.size w w' := by
  have h1 := tls_len2 ns
  refine (asm_any w (tls ns) (by omega) hO).mono ?_
  rw [asm_told hn hl]
  exact fun e w' h => h
set_option maxRecDepth 100000 in
set_option maxHeartbeats 1000000 in
theorem round_walk (ao : Option Addr) (cap : Nat) (ns : List Nat) (hn : ∀ x ∈ ns, x < 4294967296) (hl : ns.length ≤ 1048576) (hW : Wd w ao ns) (ha : ao = none → ns.length = 0 ∧ cap = 0) (hT : Tb w) : Calls Tryd.prog 7 #[.slice ao ns.length cap] w fun e w' => e = .returned (.bool true) ∧ Below w.heap.size w w' := by
  have HN := hide hn
  have HW := hide hW
  have HT := hide hT
  clear hn hW hT
  have hlen := tls_len2 ns
  go_enter Tryd.func7, Tryd.ntmps7
  go_wp2_with fail
  refine (known_any _ HT.out.ops).mono ?_
  rintro e w1 ⟨rfl, hb⟩
  have HB1 := hide hb
  clear hb
  go_wp2_with fail
  refine (words_any _ ao cap ns hl (HW.out.below HB1.out) ha).mono ?_
  rintro e w2 ⟨bo, cb, rfl, hW1, hb1⟩
  have HB2 := hide (HB1.out.trans (hb1.mono HB1.out.size))
  have HW1 := hide hW1
  clear hb1 hW1 HB1
  go_wp2_with fail
  refine (dis_any _ bo cb ns HN.out hl HW1.out (HT.out.below HB2.out)).mono ?_
  rintro e w3 ⟨rfl, hb3⟩
  have HB3 := hide (HB2.out.trans (hb3.mono HB2.out.size))
  clear hb3 HB2 HW1
  by_cases h5 : ns.length ≤ 512
  · have HA := hide (fun W h => asm_back W ns HN.out h5 h)
    generalize tls ns = T at *
    have h5I : (ns.length : Int) ≤ 512 := by omega
    go_wp2_with fail
    refine (HA.out _ (HT.out.below HB3.out).ops).mono ?_
    rintro e w4 ⟨v, rfl, hO4, hb4⟩
    obtain ⟨mo, cm, rfl, hW4⟩ := Wd.of hO4
    have HB4 := hide (HB3.out.trans (hb4.mono HB3.out.size))
    have HW4 := hide hW4
    clear hb4 hW4 hO4 HB3 HA
    go_wp2_with fail
    refine (same_any _ mo ao cm cap ns hl HW4.out (HW.out.below HB4.out)).mono ?_
    rintro e w5 ⟨rfl, hb5⟩
    have HB5 := hide (HB4.out.trans (hb5.mono HB4.out.size))
    clear hb5 HB4
    go_wp2
    go_ret
    exact ⟨rfl, HB5.out⟩
  · have h5I : ¬ (ns.length : Int) ≤ 512 := by omega
    have HA := hide (fun W h => asm_any W (tls ns) (by omega) h)
    by_cases hs : 16384 < (tls ns).length
    · have hsI : (16384 : Int) < ((tls ns).length : Int) := by omega
      generalize tls ns = T at *
      go_wp2_with fail
      refine (HA.out _ (HT.out.below HB3.out).ops).mono ?_
      rintro e w4 ⟨v, rfl, hO4, hb4⟩
      obtain ⟨mo, cm, rfl, hW4⟩ := Wd.of hO4
      have HB4 := hide (HB3.out.trans (hb4.mono HB3.out.size))
      clear hb4 hW4 hO4 HB3 HA
      generalize asmT T = X at *
      go_wp2
      go_ret
      exact ⟨rfl, HB4.out⟩
    · have hsI : ¬ (16384 : Int) < ((tls ns).length : Int) := by omega
      have HV := hide (asm_over HN.out (by omega) (by omega))
      generalize tls ns = T at *
      go_wp2_with fail
      refine (HA.out _ (HT.out.below HB3.out).ops).mono ?_
      rw [HV.out]
      rintro e w4 ⟨v, rfl, hO4, hb4⟩
      obtain ⟨mo, cm, rfl, hW4⟩ := Wd.of hO4
      have HB4 := hide (HB3.out.trans (hb4.mono HB3.out.size))
      clear hb4 hW4 hO4 HB3 HA
      go_wp2
      go_ret
      exact ⟨rfl, HB4.out⟩
end
end Go.Proofs.YtncbbllmhohnkaaDoor
