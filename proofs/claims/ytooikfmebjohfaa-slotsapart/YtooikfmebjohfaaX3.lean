import Derived.Test.YtooikfmebjohfaaX2
import Derived.Test.YtooikfmebjohfaaS3
namespace Go.Proofs.Ytooikfmebjohfaa
open Go.RowKit

def fsts (l : List (Nat × Int)) : List Int := l.map (fun x => ((x.1 : Nat) : Int))
def snds (l : List (Nat × Int)) : List Int := l.map Prod.snd
theorem len_fsts (l : List (Nat × Int)) : (fsts l).length = l.length := by simp [fsts]
theorem len_snds (l : List (Nat × Int)) : (snds l).length = l.length := by simp [snds]
theorem fsts_snoc (l : List (Nat × Int)) (k : Nat) (x : Int) : fsts (l ++ [(k, x)]) = fsts l ++ [(k : Int)] := by simp [fsts]
theorem snds_snoc (l : List (Nat × Int)) (k : Nat) (x : Int) : snds (l ++ [(k, x)]) = snds l ++ [x] := by simp [snds]
theorem pre_le {m : List (Option Int)} {pre : List (Nat × Int)} {s : Nat} (hc : m.countP Option.isSome ≤ 4096) (he : prs m 0 = pre ++ prs m s) : pre.length ≤ 4096 := by
  have h1 := prs_len m
  rw [he, List.length_append] at h1
  omega
theorem star_rot {A B C R : Asn} (W : World) (H : Nat → Prop) (h : star C (star B (star A R)) W H) : star A (star B (star C R)) W H :=
  star_swap (star_mono (fun _ _ h => star_swap h) (star_swap h))
def stars : List Asn → Asn
  | [] => emp
  | A :: l => star A (stars l)
theorem stars_front : ∀ (l1 : List Asn) (A : Asn) (l2 : List Asn) (W : World) (H : Nat → Prop), stars (l1 ++ A :: l2) W H → stars (A :: (l1 ++ l2)) W H
  | [], _, _, _, _, h => h
  | _ :: l1, A, l2, _, _, h => star_swap (star_mono (fun W H h => stars_front l1 A l2 W H h) h)
theorem good_stars : ∀ (l : List Asn), (∀ A ∈ l, Good A) → Good (stars l)
  | [], _ => good_emp
  | A :: l, h => (h A (by simp)).star (good_stars l (fun X hX => h X (by simp [hX])))
/-- the second copy while it is set anew: the rest stays, the places of l stay taken -/
def Cls (w : World) (V b : Nat) (R : Asn) (l : List Int) (W : World) : Prop := ∃ mv : List (Option Int), Sys w W (star (TabA V mv) R) ∧ mv.length = b ∧ ∀ z ∈ l, (look mv z).isSome = true
theorem Cls.drew {w : World} {V b : Nat} {R : Asn} {l : List Int} {W : World} (h : Cls w V b R l W) (hR : Good R) : Cls w V b R l W.drew := by
  obtain ⟨mv, h1, h2⟩ := h
  exact ⟨mv, h1.below ((good_tab V mv).star hR) (Below.refl _ _).drew, h2⟩
theorem region_class {P : Program} {id : Nat} {Q : Exit → Act → World → Prop} {a : Act} {w : World} {l : List Oper} {C : World → Prop} (hm : P.follows .mixedOrders = true) (hB : Region.lexB .any l.toArray = true) (hC : C w.drew)
    (h : wpQuiet P l.toArray C (fun a' => ∀ w', C w' → Q .normal a' w') l a) : (Code.region id l.toArray true).wp P Q a w :=
  wp_region_quiet (C := C) hm hB hC (by simpa using h)
theorem Sys.tabOf {w wr : World} {B : Nat} {m : List (Option Int)} {R : Asn} (h : Sys w wr (star (TabA B m) R)) : ∃ F, Tab KI wr F B m := by
  obtain ⟨H, ⟨H1, H2, h1, _⟩, _⟩ := h; exact ⟨H1, h1⟩
theorem cls_row1 {w : World} {V b n : Nat} {R I S : Asn} {L : List Asn} {l zs : List Int} {ao : Option Addr} {n1 c : Nat} {W : World} (hR : R = stars (I :: S :: L)) (hI : I = RowA (.slice ao n1 c) zs) (_ : n = n1) (h : Cls w V b R l W) : W.ownsRow 0 3 1 (.slice ao n1 c) zs.length (ints zs) := by
  obtain ⟨mv, h1, _⟩ := h
  rw [hR] at h1
  have := h1.mono (stars_front [TabA V mv] I (S :: L))
  rw [hI] at this
  exact this.row
theorem cls_row2 {w : World} {V b n : Nat} {R I S : Asn} {L : List Asn} {l zs : List Int} {ao : Option Addr} {n1 c : Nat} {W : World} (hR : R = stars (I :: S :: L)) (hS : S = RowA (.slice ao n1 c) zs) (_ : n = n1) (h : Cls w V b R l W) : W.ownsRow 0 3 1 (.slice ao n1 c) zs.length (ints zs) := by
  obtain ⟨mv, h1, _⟩ := h
  rw [hR] at h1
  have := h1.mono (stars_front [TabA V mv, I] S L)
  rw [hS] at this
  exact this.row
theorem row_some {W : World} {ao : Option Addr} {n c : Nat} {zs : List Int} (h : W.ownsRow 0 3 1 (.slice ao n c) zs.length (ints zs)) (hp : 0 < zs.length) : ∃ g : Nat, ao = some ⟨g, 0, none⟩ := by
  obtain ⟨ao', cap, e, hk⟩ := row_read h
  obtain ⟨g, hg, _⟩ := hk 0 hp
  cases e
  exact ⟨g, hg⟩
theorem row_at {W : World} {g n c : Nat} {zs : List Int} (h : W.ownsRow 0 3 1 (.slice (some ⟨g, 0, none⟩) n c) zs.length (ints zs)) {k : Nat} (hk : k < zs.length) : W.cell? ⟨g, k, none⟩ = some (.int .i64 (zs.getD k 0)) := by
  obtain ⟨ao', cap, e, h2⟩ := row_read h
  obtain ⟨g', hg, hc⟩ := h2 k hk
  cases e
  cases hg
  exact hc
theorem getD_mem {l : List Int} {j : Nat} (h : j < l.length) : l.getD j 0 ∈ l := by
  simp [List.getD, List.getElem?_eq_getElem h]
theorem taken_prs {m : List (Option Int)} {z : Int} (hz : z ∈ fsts (prs m 0)) : (look m z).isSome = true := by
  unfold fsts at hz
  obtain ⟨⟨k, x⟩, hk, rfl⟩ := List.mem_map.1 hz
  rw [look_prs.2 hk]; rfl
theorem tells_prs {m : List (Option Int)} {k : Nat} (hk : k < (fsts (prs m 0)).length) : look m ((fsts (prs m 0)).getD k 0) = some ((snds (prs m 0)).getD k 0) := by
  rw [len_fsts] at hk
  have h1 : (prs m 0)[k] ∈ prs m 0 := List.getElem_mem hk
  have e1 : (fsts (prs m 0)).getD k 0 = (((prs m 0)[k].1 : Nat) : Int) := by simp [fsts, List.getD, List.getElem?_eq_getElem hk]
  have e2 : (snds (prs m 0)).getD k 0 = (prs m 0)[k].2 := by simp [snds, List.getD, List.getElem?_eq_getElem hk]
  rw [e1, e2, look_prs]
  exact h1
theorem look_set_some {m : List (Option Int)} {k : Nat} {x y : Int} (hx : m[k]? = some (some x)) (z : Int) : (look (m.set k (some y)) z).isSome = (look m z).isSome := by
  rcases look_cases m z with ⟨h1, e⟩ | ⟨j, rfl, hj, hm, e⟩ | ⟨j, x', rfl, hj, hm, e⟩
  · rw [e, look_out _ _ (by simpa using h1)]
  · rw [e, look_nat, List.getElem?_set]
    split
    · rename_i e2; subst e2; rw [hm] at hx; cases hx
    · rw [hm]; rfl
  · rw [e, look_nat, List.getElem?_set]
    split
    · rename_i e2; subst e2; simp [hj]
    · rw [hm]; rfl
theorem cls_set {w : World} {V b : Nat} {R : Asn} {l : List Int} {W : World} {z : Int} (hR : Good R) (hz : z ∈ l) (h : Cls w V b R l W) (v : Int) :
    Calls Try.prog 39 #[.pointer (some ⟨V, 0, none⟩), .int .i64 z, .int .i64 v] W fun e w'' => e = .returned (.bool true) ∧ Cls w V b R l w'' := by
  obtain ⟨mv, h1, h2, h3⟩ := h
  obtain ⟨F, hT, hup⟩ := h1.tab hR
  refine (setB_any W F V mv hT z v).mono ?_
  rintro e w' ⟨m', rfl, hT', hE, h4⟩
  refine ⟨by rw [h3 z hz], m', hup w' F m' hT' hE, ?_, ?_⟩
  · rcases h4 with ⟨_, rfl⟩ | ⟨_, _, _, _, rfl⟩
    · exact h2
    · simpa using h2
  · rcases h4 with ⟨_, rfl⟩ | ⟨k, x, _, hx, rfl⟩
    · exact h3
    · intro y hy; rw [look_set_some hx]; exact h3 y hy
theorem info3' : ∃ i, Try.prog.info? 3 = some i ∧ i.zero = some (.int .i64 0) ∧ i.size = 1 ∧ i.bytes = 8 := info_parts (by kernel_rfl)
theorem good_two (R : Asn) (hR : Good R) (v1 v2 : Value) (l1 l2 : List Int) : Good (star (RowA v1 l1) (star (RowA v2 l2) R)) := (good_row v1 l1).star ((good_row v2 l2).star hR)

set_option maxRecDepth 8000 in
set_option maxHeartbeats 6400000 in
theorem apart_walk (a0 : Int) (a1 : Option Addr) (len cap : Nat) (Z : Nat → Int × Int × Int × Int) (a2 : Option Addr) (len2 cap2 : Nat) (Z2 : Nat → Int × Int × Int × Int) (w : World) (hlen : len ≤ maxLen) (hv : Quads w a1 len Z) (hlen2 : len2 ≤ maxLen) (hv2 : Quads w a2 len2 Z2) :
    Calls Try.prog 8 #[.int .i64 a0, .slice a1 len cap, .slice a2 len2 cap2] w fun e w' => e = .returned (.bool true) ∧ Below w.heap.size w w' := by
  have HV := hide hv
  have HV2 := hide hv2
  have HLn := hide hlen
  have HLn2 := hide hlen2
  obtain ⟨i3, hi, hz, hs, hb⟩ := info3'
  clear hv hlen hv2 hlen2
  go_enter Try.func8, Try.ntmps8
  go_wp2_with fail
  refine (newI_any _ a0).mono ?_
  rintro e w1 ⟨rfl, hT1, hb1⟩
  obtain ⟨b, hbb⟩ : ∃ b, clp a0 = b := ⟨_, rfl⟩
  rw [hbb] at hT1
  have hS1 : Sys w w1 (star (TabA (w.heap.size + 1) (List.replicate b none)) emp) := Sys.new (⟨fun _ => False, fun b h => h, fun b h => h.elim, Below.refl _ _⟩ : Sys w w emp) good_emp hT1 (fun b hb => by omega) hb1
  have HS1 := hide hS1
  have HB := hide hbb
  clear hT1 hb1 hbb hS1
  generalize w.heap.size + 1 = B at *
  obtain ⟨m0, hm0⟩ : ∃ m0, List.replicate b (none : Option Int) = m0 := ⟨_, rfl⟩
  have HL0 := hide (show m0.length = b by rw [← hm0]; simp)
  rw [hm0] at HS1
  clear hm0
  go_wp2_with fail
  refine (fixed_any _).mono ?_
  rintro e w2 ⟨rfl, hb2⟩
  have HS2 := hide (HS1.out.below ((good_tab B m0).star good_emp) hb2)
  clear hb2 HS1
  obtain ⟨F2, hT2, hup2⟩ := HS2.out.tab good_emp
  have HT2 := hide hT2
  have HU2 := hide hup2
  clear hT2 hup2
  go_wp2_with fail
  refine (put_steps _ F2 B m0 HT2.out 77).mono ?_
  rintro e w3 ⟨v3, m1, F3, rfl, hT3, hE3, hl3⟩
  have HS3 := hide (HU2.out w3 F3 m1 hT3 hE3)
  have HL1 := hide (hl3.trans HL0.out)
  clear hT3 hE3 hl3 HT2 HU2 HS2 HL0
  go_wp2_with fail
  refine (play_any w _ B m1 emp good_emp a1 len cap Z HLn.out HV.out HS3.out).mono ?_
  rintro e w4 ⟨rfl, m, hS4, hl4⟩
  have HS4 := hide hS4
  have HL := hide (hl4.trans HL1.out)
  have HCM := hide (show m.countP Option.isSome ≤ 4096 by
    obtain ⟨F, hT, _⟩ := hS4.tab good_emp
    exact Nat.le_trans count_le hT.cap)
  clear hS4 hl4 HL1 HS3
  obtain ⟨F4, hT4, hup4⟩ := HS4.out.tab good_emp
  have HT4 := hide hT4
  clear hT4 hup4
  go_wp2_with fail
  refine (nextI_at _ F4 B m HT4.out 0).mono ?_
  rintro e w5 ⟨q0, rfl, hq0, rfl⟩
  have HQ0 : Hid (At m 0 q0) := hq0
  have HS := hide (show Sys w w5 (star (TabA B m) (star (RowA (.slice none 0 0) (fsts [])) (star (RowA (.slice none 0 0) (snds [])) emp))) from
    Sys.mono (Sys.nil (Sys.mono (Sys.nil HS4.out) (fun _ _ h => star_swap h))) (fun _ _ h => star_swap h))
  clear hq0 HT4 HS4
  go_wp2
  go_loopw [8, 9, 10] (fun v8 v9 v10 wr => ∃ (pre : List (Nat × Int)) (s : Nat) (q : Int), v10 = .int .i64 q ∧ Hid (prs m 0 = pre ++ prs m s) ∧ Hid (At m s q) ∧ Sys w wr (star (TabA B m) (star (RowA v8 (fsts pre)) (star (RowA v9 (snds pre)) emp)))) (fun _ _ v10 _ => meas m.length v10)
  case atStart => exact ⟨[], 0, q0, rfl, rfl, HQ0, HS.out⟩
  case round =>
    obtain ⟨pre, s, q, rfl, HE, HA, hS⟩ := hrel
    have HS1 := hide hS
    have hpl := pre_le HCM.out HE.out
    have hrow8 := (Sys.mono hS (fun _ _ h => star_swap h)).row
    have hrow9 := (Sys.mono hS (fun _ _ h => star_swap (star_mono (fun _ _ h => star_swap h) h))).row
    obtain ⟨ao8, c8, e8, _⟩ := row_read hrow8
    obtain ⟨ao9, c9, e9, _⟩ := row_read hrow9
    rw [len_fsts] at e8
    rw [len_snds] at e9
    subst e8 e9
    clear hS hrow8 hrow9 HS HQ0
    rcases HA.out with ⟨k, rfl, hn1⟩ | ⟨rfl, hn1⟩
    · obtain ⟨x, hx⟩ := hn1.2.1
      have hkm : k < m.length := (List.getElem?_eq_some_iff.1 hx).1
      have hpe := prs_next hn1 hx
      have HE2 := hide (show prs m 0 = (pre ++ [(k, x)]) ++ prs m (k + 1) by
        have := HE.out
        rw [hpe] at this
        simpa using this)
      have HX := hide (show look m (k : Int) = some x by rw [look_nat, hx]; rfl)
      obtain ⟨F, hT, _⟩ := HS1.out.tab (good_two emp good_emp _ _ _ _)
      have HT := hide hT
      have hkc : k < 4096 := by have := hT.cap; omega
      have hd1 : decide (pre.length ≤ 4096) = true := by simpa using hpl
      clear hT hx hpe hn1 HA
      go_wp2_with fail
      refine (getI_any _ F B m HT.out k).mono ?_
      rintro e w6 ⟨rfl, rfl⟩
      rw [HX.out]
      simp only [Option.getD_some, Option.isSome_some]
      have HSa := hide (Sys.mono (HS1.out.alloc ((good_tab B m).star (good_two emp good_emp _ _ _ _)) (.cells #[.int .i64 (k : Int)] 3)) (fun _ _ h => star_swap h))
      clear HT
      have hown6 := HSa.out.row
      rw [len_fsts] at hown6
      go_upto_region 15 with (at_builtin; refine wpList_append_own_at _ rfl _ _ 48 rfl 0 3 i3 (.int .i64 0) 1 8 Try.underlying48 hi hz hs hb rfl (by decide) _ pre.length (ints (fsts pre)) rfl hown6 ⟨w6.heap.size, 0, none⟩ 1 1 [.int .i64 (k : Int)] rfl rfl (cell_one_new _ _ _) (by simp [Value.oneCell']) (by unfold maxLen; omega) (by omega) (by omega) ?_; intro v8' w7 hown7 hg7 _ hloc7)
      have HS7 := hide (HSa.out.app ((good_tab B m).star ((good_row _ _).star good_emp)) (x := (k : Int)) (by rw [len_fsts]; exact hown7) hg7 hloc7)
      clear hown6 hown7 hg7 hloc7 HSa
      have HSb := hide (Sys.mono (HS7.out.alloc ((good_row _ _).star ((good_tab B m).star ((good_row _ _).star good_emp))) (.cells #[.int .i64 x] 3)) (fun _ _ h => star_swap (star_mono (fun _ _ h => star_swap h) h)))
      have hown7 := HSb.out.row
      rw [len_snds] at hown7
      clear HS7
      go_wp2_with (at_builtin; refine wpList_append_own_at _ rfl _ _ 48 rfl 0 3 i3 (.int .i64 0) 1 8 Try.underlying48 hi hz hs hb rfl (by decide) _ pre.length (ints (snds pre)) rfl hown7 ⟨w7.heap.size, 0, none⟩ 1 1 [.int .i64 x] rfl rfl (cell_one_new _ _ _) (by simp [Value.oneCell']) (by unfold maxLen; omega) (by omega) (by omega) ?_; intro v9' w8 hown8 hg8 _ hloc8)
      have hs8 : Sys w w8 (star (RowA v9' (snds pre ++ [x])) (star (RowA v8' (fsts pre ++ [(k : Int)])) (star (TabA B m) emp))) := HSb.out.app ((good_row _ _).star ((good_tab B m).star good_emp)) (x := x) (by rw [len_snds]; exact hown8) hg8 hloc8
      rw [← fsts_snoc pre k x, ← snds_snoc pre k x] at hs8
      have HS8 : Hid (Sys w w8 (star (TabA B m) (star (RowA v8' (fsts (pre ++ [(k, x)]))) (star (RowA v9' (snds (pre ++ [(k, x)]))) emp)))) := hs8.mono star_rot
      clear hown7 hown8 hg8 hloc8 HSb hs8
      obtain ⟨F8, hT8, _⟩ := HS8.out.tab (good_two emp good_emp _ _ _ _)
      have HT8 := hide hT8
      clear hT8 HS1
      refine (nextI_at _ F8 B m HT8.out ((k : Int) + 1)).mono ?_
      rintro e w9 ⟨q9, rfl, hq9, rfl⟩
      have HQ9 : Hid (At m (k + 1) q9) := hq9
      clear hq9 HT8
      go_wp2
      go_roundw
      case rel =>
        first
          | exact ⟨_, k + 1, q9, rfl, HE2, HQ9, HS8.out⟩
          | ((repeat apply Exists.intro); refine ⟨?_, rfl⟩; exact ⟨_, k + 1, q9, rfl, HE2, HQ9, HS8.out⟩)
      case measure =>
        exact meas_next hkm (HQ9.out.imp (fun ⟨q', h1, h2⟩ => ⟨q', h1, h2.1⟩) (fun h => h.1))
    · have hpe := prs_end hn1
      have hpre : pre = prs m 0 := by rw [HE.out, hpe]; simp
      subst hpre
      have HSL := hide HS1.out
      clear HA HE hn1 hpe HS1
      obtain ⟨F5, hT5, _⟩ := HSL.out.tab (good_two emp good_emp _ _ _ _)
      have HT5 := hide hT5
      clear hT5
      go_wp2_with fail
      refine (lenI_any _ F5 B m HT5.out).mono ?_
      rintro e w6 ⟨rfl, rfl⟩
      rw [← prs_len m]
      go_wp2_with fail
      refine (copyI_any _ F5 B m HT5.out).mono ?_
      rintro e w7 ⟨U, FU, rfl, hTU, hlU, hbU⟩
      have hS7 := HSL.out.new ((good_tab B m).star (good_two emp good_emp _ _ _ _)) hTU hlU hbU
      have HS7 := hide hS7
      obtain ⟨F7, hT7, _⟩ := (Sys.mono hS7 (fun _ _ h => star_swap h)).tab ((good_tab U m).star (good_two emp good_emp _ _ _ _))
      have HT7 := hide hT7
      clear hT7 hS7 hTU hlU hbU HT5 HSL
      go_wp2_with fail
      refine (copyI_any _ F7 B m HT7.out).mono ?_
      rintro e w8 ⟨V, FV, rfl, hTV, hlV, hbV⟩
      have hS8 := HS7.out.new ((good_tab U m).star ((good_tab B m).star (good_two emp good_emp _ _ _ _))) hTV hlV hbV
      have HS8 := hide hS8
      obtain ⟨F8, hT8, _⟩ := (Sys.mono hS8 (fun _ _ h => star_swap h)).tab ((good_tab V m).star ((good_tab B m).star (good_two emp good_emp _ _ _ _)))
      have HT8 := hide hT8
      clear hT8 hS8 hTV hlV hbV HT7 HS7
      go_wp2_with fail
      refine (boundI_any _ F8 U m HT8.out).mono ?_
      rintro e w9 ⟨rfl, rfl⟩
      rw [HL.out]
      go_wp2_with fail
      refine (clamp_any _ a0).mono ?_
      rintro e w10 ⟨rfl, rfl⟩
      rw [HB.out]
      obtain ⟨R9, hR9⟩ : ∃ R9, R9 = star (TabA U m) (star (TabA V m) (star (RowA (.slice ao8 (prs m 0).length c8) (fsts (prs m 0))) (star (RowA (.slice ao9 (prs m 0).length c9) (snds (prs m 0))) emp))) := ⟨_, rfl⟩
      have GR9 : Hid (Good R9) := by rw [hR9]; exact (good_tab U m).star ((good_tab V m).star (good_two emp good_emp _ _ _ _))
      have HS9 : Hid (Sys w w10 (star (TabA B m) R9)) := by rw [hR9]; exact HS8.out.mono star_rot
      have HR9 := hide hR9
      clear hR9 HS8 HT8
      go_wp2_with fail
      refine (play_any w _ B m R9 GR9.out a2 len2 cap2 Z2 HLn2.out HV2.out HS9.out).mono ?_
      rintro e w11 ⟨rfl, m2, hS11, hl11⟩
      have HS11 := hide hS11
      have HL2 := hide (hl11.trans HL.out)
      obtain ⟨F11, hT11, _⟩ := hS11.tab GR9.out
      have HCM0 := HCM
      clear HCM
      have HCM := hide (show m2.countP Option.isSome ≤ 4096 from Nat.le_trans count_le hT11.cap)
      have HT11 := hide hT11
      clear hS11 hl11 hT11 HS9
      go_wp2_with fail
      refine (nextI_at _ F11 B m2 HT11.out 0).mono ?_
      rintro e w12 ⟨q0, rfl, hq0, rfl⟩
      have HQ0 : Hid (At m2 0 q0) := hq0
      have HS := hide (show Sys w w12 (star (TabA B m2) (star (RowA (.slice none 0 0) (fsts [])) (star (RowA (.slice none 0 0) (snds [])) R9))) from
        Sys.mono (Sys.nil (Sys.mono (Sys.nil HS11.out) (fun _ _ h => star_swap h))) (fun _ _ h => star_swap h))
      clear hq0 HT11 HS11
      go_wp2
      go_loopw [15, 16, 17] (fun v8 v9 v10 wr => ∃ (pre : List (Nat × Int)) (s : Nat) (q : Int), v10 = .int .i64 q ∧ Hid (prs m2 0 = pre ++ prs m2 s) ∧ Hid (At m2 s q) ∧ Sys w wr (star (TabA B m2) (star (RowA v8 (fsts pre)) (star (RowA v9 (snds pre)) R9)))) (fun _ _ v10 _ => meas m2.length v10)
      case atStart => exact ⟨[], 0, q0, rfl, rfl, HQ0, HS.out⟩
      case round =>
        obtain ⟨pre, s, q, rfl, HE, HA, hS⟩ := hrel
        have HS1 := hide hS
        have hpl := pre_le HCM.out HE.out
        have hrow8 := (Sys.mono hS (fun _ _ h => star_swap h)).row
        have hrow9 := (Sys.mono hS (fun _ _ h => star_swap (star_mono (fun _ _ h => star_swap h) h))).row
        obtain ⟨bo8, d8, e8, _⟩ := row_read hrow8
        obtain ⟨bo9, d9, e9, _⟩ := row_read hrow9
        rw [len_fsts] at e8
        rw [len_snds] at e9
        subst e8 e9
        clear hS hrow8 hrow9 HS HQ0
        rcases HA.out with ⟨k, rfl, hn1⟩ | ⟨rfl, hn1⟩
        · obtain ⟨x, hx⟩ := hn1.2.1
          have hkm : k < m2.length := (List.getElem?_eq_some_iff.1 hx).1
          have hpe := prs_next hn1 hx
          have HE2 := hide (show prs m2 0 = (pre ++ [(k, x)]) ++ prs m2 (k + 1) by
            have := HE.out
            rw [hpe] at this
            simpa using this)
          have HX := hide (show look m2 (k : Int) = some x by rw [look_nat, hx]; rfl)
          obtain ⟨F, hT, _⟩ := HS1.out.tab (good_two R9 GR9.out _ _ _ _)
          have HT := hide hT
          have hkc : k < 4096 := by have := hT.cap; omega
          have hd1 : decide (pre.length ≤ 4096) = true := by simpa using hpl
          clear hT hx hpe hn1 HA
          go_wp2_with fail
          refine (getI_any _ F B m2 HT.out k).mono ?_
          rintro e w6 ⟨rfl, rfl⟩
          rw [HX.out]
          simp only [Option.getD_some, Option.isSome_some]
          have HSa := hide (Sys.mono (HS1.out.alloc ((good_tab B m2).star (good_two R9 GR9.out _ _ _ _)) (.cells #[.int .i64 (k : Int)] 3)) (fun _ _ h => star_swap h))
          clear HT
          have hown6 := HSa.out.row
          rw [len_fsts] at hown6
          go_upto_region 32 with (at_builtin; refine wpList_append_own_at _ rfl _ _ 48 rfl 0 3 i3 (.int .i64 0) 1 8 Try.underlying48 hi hz hs hb rfl (by decide) _ pre.length (ints (fsts pre)) rfl hown6 ⟨w6.heap.size, 0, none⟩ 1 1 [.int .i64 (k : Int)] rfl rfl (cell_one_new _ _ _) (by simp [Value.oneCell']) (by unfold maxLen; omega) (by omega) (by omega) ?_; intro v8' w7 hown7 hg7 _ hloc7)
          have HS7 := hide (HSa.out.app ((good_tab B m2).star ((good_row _ _).star GR9.out)) (x := (k : Int)) (by rw [len_fsts]; exact hown7) hg7 hloc7)
          clear hown6 hown7 hg7 hloc7 HSa
          have HSb := hide (Sys.mono (HS7.out.alloc ((good_row _ _).star ((good_tab B m2).star ((good_row _ _).star GR9.out))) (.cells #[.int .i64 x] 3)) (fun _ _ h => star_swap (star_mono (fun _ _ h => star_swap h) h)))
          have hown7 := HSb.out.row
          rw [len_snds] at hown7
          clear HS7
          go_wp2_with (at_builtin; refine wpList_append_own_at _ rfl _ _ 48 rfl 0 3 i3 (.int .i64 0) 1 8 Try.underlying48 hi hz hs hb rfl (by decide) _ pre.length (ints (snds pre)) rfl hown7 ⟨w7.heap.size, 0, none⟩ 1 1 [.int .i64 x] rfl rfl (cell_one_new _ _ _) (by simp [Value.oneCell']) (by unfold maxLen; omega) (by omega) (by omega) ?_; intro v9' w8 hown8 hg8 _ hloc8)
          have hs8 : Sys w w8 (star (RowA v9' (snds pre ++ [x])) (star (RowA v8' (fsts pre ++ [(k : Int)])) (star (TabA B m2) R9))) := HSb.out.app ((good_row _ _).star ((good_tab B m2).star GR9.out)) (x := x) (by rw [len_snds]; exact hown8) hg8 hloc8
          rw [← fsts_snoc pre k x, ← snds_snoc pre k x] at hs8
          have HS8 : Hid (Sys w w8 (star (TabA B m2) (star (RowA v8' (fsts (pre ++ [(k, x)]))) (star (RowA v9' (snds (pre ++ [(k, x)]))) R9)))) := hs8.mono star_rot
          clear hown7 hown8 hg8 hloc8 HSb hs8
          obtain ⟨F8, hT8, _⟩ := HS8.out.tab (good_two R9 GR9.out _ _ _ _)
          have HT8 := hide hT8
          clear hT8 HS1
          refine (nextI_at _ F8 B m2 HT8.out ((k : Int) + 1)).mono ?_
          rintro e w9 ⟨q9, rfl, hq9, rfl⟩
          have HQ9 : Hid (At m2 (k + 1) q9) := hq9
          clear hq9 HT8
          go_wp2
          go_roundw
          case rel =>
            first
              | exact ⟨_, k + 1, q9, rfl, HE2, HQ9, HS8.out⟩
              | ((repeat apply Exists.intro); refine ⟨?_, rfl⟩; exact ⟨_, k + 1, q9, rfl, HE2, HQ9, HS8.out⟩)
          case measure =>
            exact meas_next hkm (HQ9.out.imp (fun ⟨q', h1, h2⟩ => ⟨q', h1, h2.1⟩) (fun h => h.1))
        · have hpe := prs_end hn1
          have hpre : pre = prs m2 0 := by rw [HE.out, hpe]; simp
          subst hpre
          have HSL := hide HS1.out
          clear HA HE hn1 hpe HS1
          have hS13 := HSL.out
          rw [HR9.out] at hS13
          obtain ⟨Ia, hIa⟩ : ∃ X, X = RowA (.slice ao8 (prs m 0).length c8) (fsts (prs m 0)) := ⟨_, rfl⟩
          obtain ⟨Sa, hSa⟩ : ∃ X, X = RowA (.slice ao9 (prs m 0).length c9) (snds (prs m 0)) := ⟨_, rfl⟩
          obtain ⟨Ja, hJa⟩ : ∃ X, X = RowA (.slice bo8 (prs m2 0).length d8) (fsts (prs m2 0)) := ⟨_, rfl⟩
          obtain ⟨Ka, hKa⟩ : ∃ X, X = RowA (.slice bo9 (prs m2 0).length d9) (snds (prs m2 0)) := ⟨_, rfl⟩
          rw [← hIa, ← hSa, ← hJa, ← hKa] at hS13
          have GI : Good Ia := by rw [hIa]; exact good_row _ _
          have GS : Good Sa := by rw [hSa]; exact good_row _ _
          have GJ : Good Ja := by rw [hJa]; exact good_row _ _
          have GK : Good Ka := by rw [hKa]; exact good_row _ _
          have h14 : Sys w wr (stars [TabA V m, Ia, Sa, TabA U m, TabA B m2, Ja, Ka]) :=
            ((((show Sys w wr (stars [TabA B m2, Ja, Ka, TabA U m, TabA V m, Ia, Sa]) from hS13).mono
              (stars_front [TabA B m2, Ja, Ka] (TabA U m) [TabA V m, Ia, Sa])).mono
              (stars_front [TabA U m, TabA B m2, Ja, Ka, TabA V m, Ia] Sa [])).mono
              (stars_front [Sa, TabA U m, TabA B m2, Ja, Ka, TabA V m] Ia [])).mono
              (stars_front [Ia, Sa, TabA U m, TabA B m2, Ja, Ka] (TabA V m) [])
          obtain ⟨R13, hR13⟩ : ∃ X, X = stars [Ia, Sa, TabA U m, TabA B m2, Ja, Ka] := ⟨_, rfl⟩
          have G13 : Hid (Good R13) := by
            rw [hR13]
            exact GI.star (GS.star ((good_tab U m).star ((good_tab B m2).star (GJ.star (GK.star good_emp)))))
          have H14 : Hid (Cls w V b R13 (fsts (prs m 0)) wr) := by
            refine ⟨m, ?_, HL.out, fun z hz => taken_prs hz⟩
            rw [hR13]; exact h14
          have HR13 := hide hR13
          have HIa := hide hIa
          have HSa := hide hSa
          have HJa := hide hJa
          have HKa := hide hKa
          clear hS13 h14 hR13 hIa hSa hJa hKa GI GS GJ GK HSL HR9 GR9
          go_wp2
          obtain ⟨n1, hn1⟩ : ∃ n1, (prs m 0).length = n1 := ⟨_, rfl⟩
          have HN1 := hide hn1
          rw [hn1] at HIa HSa ⊢
          have hn4 : n1 ≤ 4096 := by have := HCM0.out; rw [← hn1, prs_len]; exact this
          clear hn1
          go_loopw [20] (fun v wx => ∃ j : Nat, j ≤ n1 ∧ v = .int .i64 j ∧ Hid (Cls w V b R13 (fsts (prs m 0)) wx)) (fun v _ => n1 - (intOf v).toNat)
          case atStart => exact ⟨0, by omega, rfl, H14⟩
          case round =>
            obtain ⟨j, hj, rfl, HC⟩ := hrel
            clear H14
            by_cases hjn : j < n1
            · have HI := hide (fun (W : World) (h : Cls w V b R13 (fsts (prs m 0)) W) => cls_row1 HR13.out HIa.out HN1.out h)
              have HS' := hide (fun (W : World) (h : Cls w V b R13 (fsts (prs m 0)) W) => cls_row2 HR13.out HSa.out HN1.out h)
              obtain ⟨g1, hg1⟩ := row_some (HI.out _ HC.out) (by rw [len_fsts, HN1.out]; omega)
              obtain ⟨g2, hg2⟩ := row_some (HS'.out _ HC.out) (by rw [len_snds, HN1.out]; omega)
              subst hg1 hg2
              have H1 := hide (fun (W : World) h => row_at (HI.out W h) (k := j) (by rw [len_fsts, HN1.out]; exact hjn))
              have H2 := hide (fun (W : World) h => row_at (HS'.out W h) (k := j) (by rw [len_snds, HN1.out]; exact hjn))
              have HM := hide (show (fsts (prs m 0)).getD j 0 ∈ fsts (prs m 0) from getD_mem (by rw [len_fsts, HN1.out]; exact hjn))
              generalize (fsts (prs m 0)).getD j 0 = y1 at *
              generalize (snds (prs m 0)).getD j 0 = y2 at *
              have hji : (j : Int) < (n1 : Int) := by omega
              go_wp2_with fail
              refine region_class (C := Cls w V b R13 (fsts (prs m 0))) (by kernel_rfl) (by kernel_rfl) (HC.out.drew G13.out) ?_
              iterate 4 (refine wpQuiet_step (fun K hK => ?_); go_simp; refine ⟨_, fun _ _ => rfl, hK _ ?_⟩; clear hK K)
              refine wpQuiet_step (fun K hK => ?_)
              go_simp
              refine ⟨.int .i64 y1, fun w' hw' => ?_, hK _ ?_⟩
              · have c3 := H1.out w' hw'
                go_simp
              clear hK K
              iterate 3 (refine wpQuiet_step (fun K hK => ?_); go_simp; refine ⟨_, fun _ _ => rfl, hK _ ?_⟩; clear hK K)
              refine wpQuiet_step (fun K hK => ?_)
              go_simp
              refine ⟨.int .i64 y2, fun w' hw' => ?_, hK _ ?_⟩
              · have c3 := H2.out w' hw'
                go_simp
              clear hK K
              refine wpQuiet_step (fun K hK => ?_); go_simp; refine ⟨_, fun _ _ => rfl, hK _ ?_⟩; clear hK K
              refine wpQuiet_step (fun K hK => ?_)
              go_simp
              refine ⟨.bool true, fun w' hw' => cls_set G13.out HM.out hw' _, hK _ ?_⟩
              clear hK K
              refine wpQuiet_nil ?_
              intro w' hw'
              have HW := hide hw'
              clear hw'
              go_wp2
              go_roundw
              case rel =>
                first
                  | exact ⟨j + 1, by omega, by go_num, HW⟩
                  | ((repeat apply Exists.intro); refine ⟨?_, rfl⟩; exact ⟨j + 1, by omega, by go_num, HW⟩)
              case measure => simp [intOf]; omega
            · obtain ⟨mv, hSv, hlv, _⟩ := HC.out
              have HSv := hide hSv
              clear hSv HC
              go_wp2_with fail
              refine (play_any w _ V mv R13 G13.out a2 len2 cap2 Z2 HLn2.out HV2.out HSv.out).mono ?_
              rintro e w20 ⟨rfl, mw, hS20, hl20⟩
              obtain ⟨F20, hT20, hup20⟩ := hS20.tab G13.out
              have HT20 := hide hT20
              have HU20 := hide hup20
              clear hT20 hup20 hS20 HSv
              go_wp2_with fail
              refine (clearI_any _ F20 V mw HT20.out).mono ?_
              rintro e w21 ⟨rfl, hT21, hE21⟩
              have hS21 := HU20.out w21 F20 _ hT21 hE21
              rw [HR13.out] at hS21
              have h21 : Sys w w21 (stars [TabA V (List.replicate mw.length none), Ia, Sa, TabA U m, TabA B m2, Ja, Ka]) := hS21
              have rI := (h21.mono (stars_front [TabA V (List.replicate mw.length none)] Ia [Sa, TabA U m, TabA B m2, Ja, Ka]))
              have rS := (h21.mono (stars_front [TabA V (List.replicate mw.length none), Ia] Sa [TabA U m, TabA B m2, Ja, Ka]))
              have rJ := (h21.mono (stars_front [TabA V (List.replicate mw.length none), Ia, Sa, TabA U m, TabA B m2] Ja [Ka]))
              have rK := (h21.mono (stars_front [TabA V (List.replicate mw.length none), Ia, Sa, TabA U m, TabA B m2, Ja] Ka []))
              have tU := (h21.mono (stars_front [TabA V (List.replicate mw.length none), Ia, Sa] (TabA U m) [TabA B m2, Ja, Ka])).tabOf
              have tB := (h21.mono (stars_front [TabA V (List.replicate mw.length none), Ia, Sa, TabA U m] (TabA B m2) [Ja, Ka])).tabOf
              have tV := h21.tabOf
              rw [HIa.out] at rI
              rw [HSa.out] at rS
              rw [HJa.out] at rJ
              rw [HKa.out] at rK
              have oI := hide rI.row
              have oS := hide rS.row
              have oJ := hide rJ.row
              have oK := hide rK.row
              obtain ⟨FU, tU⟩ := tU
              obtain ⟨FB, tB⟩ := tB
              obtain ⟨FV, tV⟩ := tV
              have TU := hide tU
              have TB := hide tB
              have TV := hide tV
              have HBel := hide h21.bel
              have HCV := hide (show (List.replicate mw.length (none : Option Int)).countP Option.isSome = 0 from List.countP_eq_zero.2 (fun a ha => by rw [(List.mem_replicate.1 ha).2]; simp))
              clear rI rS rJ rK tU tB tV h21 hS21 hT21 hE21 HU20 HT20
              generalize List.replicate mw.length (none : Option Int) = mz at *
              go_wp2_with fail
              refine (tells_any _ FU U m TU.out _ _ (fsts (prs m 0)) (snds (prs m 0)) oI.out oS.out (by rw [len_fsts, prs_len]) (by rw [len_fsts, len_snds]) (fun k hk => tells_prs hk)).mono ?_
              rintro e w22 ⟨rfl, rfl⟩
              go_wp2_with fail
              refine (tells_any _ FB B m2 TB.out _ _ (fsts (prs m2 0)) (snds (prs m2 0)) oJ.out oK.out (by rw [len_fsts, prs_len]) (by rw [len_fsts, len_snds]) (fun k hk => tells_prs hk)).mono ?_
              rintro e w23 ⟨rfl, rfl⟩
              go_wp2_with fail
              refine (lenI_any _ FV V mz TV.out).mono ?_
              rintro e w24 ⟨rfl, rfl⟩
              rw [HCV.out]
              go_wp2
              go_ret
              exact ⟨rfl, HBel.out⟩
end Go.Proofs.Ytooikfmebjohfaa
