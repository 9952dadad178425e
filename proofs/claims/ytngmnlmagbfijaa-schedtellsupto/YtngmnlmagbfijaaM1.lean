import Derived.Test.YtngmnlmagbfijaaLD
namespace Go.Proofs.Ytngmnlmagbfijaa
open Go.RowKit
def rsum : List Cz → Nat
  | [] => 0
  | c :: t => c.R.length + rsum t
theorem rsum_take : ∀ (l : List Cz) (k : Nat), rsum (l.take k) ≤ rsum l
  | [], k => by simp
  | a :: t, 0 => by simp [rsum]
  | a :: t, k + 1 => by simp only [List.take_succ_cons, rsum]; have := rsum_take t k; omega
theorem rsum_succ {l : List Cz} {k : Nat} {c : Cz} (h : l[k]? = some c) : rsum (l.take (k + 1)) = rsum (l.take k) + c.R.length := by
  obtain ⟨h1, h2⟩ := List.getElem?_eq_some_iff.1 h
  rw [List.take_succ_eq_append_getElem h1, h2]
  have : ∀ (a : List Cz) (c : Cz), rsum (a ++ [c]) = rsum a + c.R.length := by
    intro a
    induction a with
    | nil => intro c; simp [rsum]
    | cons x t ih => intro c; simp only [List.cons_append, rsum, ih]; omega
  exact this _ _
theorem ChR.at {S : Nat → Prop} {w : World} {ao : Option Addr} {n cap : Nat} {l : List Cz} (h : ChR S w (.slice ao n cap) l) {i : Nat} {c : Cz} (hc : l[i]? = some c) :
    ∃ x au cu, ao = some x ∧ S x.block ∧ w.cell? (x.add (i * 3)) = some (.slice au c.R.length cu) ∧ w.cell? ⟨(x.add (i * 3)).block, (x.add (i * 3)).off + 1, none⟩ = some (.int .i64 c.c) ∧ w.cell? ⟨(x.add (i * 3)).block, (x.add (i * 3)).off + 2, none⟩ = some (.bool c.b) ∧ Rd S w (.slice au c.R.length cu) c.R := by
  obtain ⟨ao', cap', h1, h2, h3⟩ := h
  cases h1
  obtain ⟨x, u, e, hS, c0, c1, c2, c5⟩ := h3 i c hc
  obtain ⟨au, cu, rfl, _⟩ := c5.len
  have ea : ∀ j, x.add (i * 3 + (j + 1)) = (⟨(x.add (i * 3)).block, (x.add (i * 3)).off + (j + 1), none⟩ : Addr) := fun j => by rw [← Addr.add_add]; simp [Addr.add]
  rw [ea 0] at c1
  rw [ea 1] at c2
  exact ⟨x, au, cu, e, hS, c0, c1, c2, c5⟩
theorem nodup_le : ∀ (T sn : List Int), T.Nodup → (∀ t ∈ T, t ∈ sn) → T.length ≤ sn.length
  | [], _, _, _ => by simp
  | a :: t, sn, hn, hm => by
    rw [List.nodup_cons] at hn
    have ha := hm a (List.mem_cons_self ..)
    have := nodup_le t (sn.erase a) hn.2 (fun x hx => by
      rw [List.mem_erase_of_ne (fun e => hn.1 (by rw [← e]; exact hx))]
      exact hm x (List.mem_cons_of_mem _ hx))
    rw [List.length_erase_of_mem ha] at this
    have := List.length_pos_of_mem ha
    simp only [List.length_cons]
    omega
/-- nobody starves -/
def NS (l : List Cz) (who : Int) : Prop := ∀ b, b < l.length → (∀ j c, j ≤ b → l[j]? = some c → c.c ≠ who ∧ who ∈ c.R) → ∃ T : List Int, T.Nodup ∧ T.length = b + 2 ∧ ∀ t ∈ T, ∃ j c, j ≤ b ∧ l[j]? = some c ∧ t ∈ c.R
section
variable (w : World)
set_option maxRecDepth 100000 in
set_option maxHeartbeats 8000000 in
theorem starved_any (S : Nat → Prop) (v : Value) (l : List Cz) (hO : ChR S w v l) (hS : ∀ b, S b → b < w.heap.size) (hl : l.length ≤ 1048576) (hr : rsum l ≤ 1048576) (who : Int) (hNS : NS l who) :
    Calls Try.prog 11 #[v, .int .i64 who] w fun e w' => e = .returned (.bool false) ∧ Below w.heap.size w w' := by
  obtain ⟨i3, hi, hz, hs, hb⟩ := info3'
  have HO := hide hO
  have HS := hide hS
  have HN := hide hNS
  have HR := hide hr
  obtain ⟨ao, cap, rfl, hcap, _⟩ := hO
  obtain ⟨m, hm⟩ : ∃ m, l.length = m := ⟨_, rfl⟩
  have HLn := hide hm
  rw [hm] at hcap HO hl ⊢
  clear hS hm hNS hr
  go_enter Try.func11, Try.ntmps11
  go_upto_region 3 with fail
  go_loopw [5, 6] (fun r i wr => ∃ (k : Nat) (seen : List Int), k ≤ m ∧ i = .int .i64 (k : Nat) ∧ Hid (Oi wr w.heap.size r seen) ∧ Hid (seen.length ≤ rsum (l.take k)) ∧ Hid (∀ j c, j < k → l[j]? = some c → (c.c ≠ who ∧ who ∈ c.R) ∧ ∀ t ∈ c.R, t ∈ seen) ∧ Hid (Below w.heap.size w wr)) (fun _ i _ => m - (RowKit.intOf i).toNat)
  case atStart => exact ⟨0, [], by omega, rfl, hide ⟨rfl, .inl ⟨rfl, rfl⟩⟩, hide (by simp), hide (fun j c hj => by omega), hide (Below.refl _ _)⟩
  case round =>
    obtain ⟨k, seen, hk, rfl, HSe, HSl, HD, HB⟩ := hrel
    by_cases hlt : k < m
    · obtain ⟨c, hc⟩ : ∃ c, l[k]? = some c := ⟨l[k]'(by rw [HLn.out]; exact hlt), List.getElem?_eq_getElem _⟩
      have HC := hide hc
      have HOr := HO.out.keep (w' := wr) (fun b hb => HB.out.block b (HS.out b hb))
      obtain ⟨x, au, cu, rfl, hSx, c0, c1, _, c5⟩ := HOr.at hc
      have hki : (k : Int) < m := by omega
      have hr1 := rsum_succ hc
      have hr2 := rsum_take l (k + 1)
      have hr3 := HR.out
      have hcl : c.R.length ≤ 1048576 := by omega
      obtain ⟨cR, cc, cb⟩ := c
      dsimp only at c0 c1 c5 hcl hr1
      obtain ⟨rl, hrl⟩ : ∃ rl, cR.length = rl := ⟨_, rfl⟩
      have HRl := hide hrl
      rw [hrl] at c0 c5 hcl hr1
      have HC5 := hide c5
      clear hc c5 hrl HOr hSx
      by_cases hcw : cc = who
      · subst hcw
        go_wp2
        go_ret
        exact ⟨rfl, HB.out⟩
      have hcw2 : (cc == who) = false := by simpa using hcw
      by_cases hin : who ∈ cR
      · go_wp2_with fail
        refine (in_any wr S _ cR HC5.out (by rw [HRl.out]; omega) who).mono ?_
        rw [decide_eq_true hin]
        rintro e w1 ⟨rfl, rfl⟩
        have HI := hide (And.intro hcw hin)
        clear hcw hin hcw2 c1
        have HKs := hide (And.intro HSl HD)
        have hr4 := HSl.out
        have HCw := hide (⟨x, rfl, rfl⟩ : ∃ y, x = y ∧ y = x)
        clear c0 HSl HD
        go_upto_region 8 with fail
        go_loopw [5, 7] (fun r i wr => ∃ (q : Nat) (sn : List Int), q ≤ rl ∧ i = .int .i64 (q : Nat) ∧ Hid (Oi wr w.heap.size r sn) ∧ Hid (sn.length ≤ rsum (l.take k) + q) ∧ Hid (∀ t ∈ seen, t ∈ sn) ∧ Hid (∀ t ∈ cR.take q, t ∈ sn) ∧ Hid (Below w.heap.size w wr)) (fun _ i _ => rl - (RowKit.intOf i).toNat)
        case atStart => exact ⟨0, seen, by omega, rfl, HSe, hide (by have := HKs.out.1.out; omega), hide (fun t h => h), hide (fun t h => by simp at h), HB⟩
        case round =>
          obtain ⟨q, sn, hq, rfl, HSn, HSm, HU, HV, HBq⟩ := hrel
          have HOq := HO.out.keep (w' := wr) (fun b hb => HBq.out.block b (HS.out b hb))
          obtain ⟨x', au', cu', hx', hSx', c0, c1, _, c5⟩ := HOq.at HC.out
          cases hx'
          dsimp only at c0 c5
          rw [HRl.out] at c0 c5
          clear HOq hSx' c1
          by_cases hql : q < rl
          · have hqi : (q : Int) < rl := by omega
            obtain ⟨y, rfl, _, hy⟩ := c5.some_of (by rw [HRl.out]; omega)
            have d0 := hy q (by rw [HRl.out]; omega)
            have hq' : q < cR.length := by rw [HRl.out]; exact hql
            have htq : cR.take (q + 1) = cR.take q ++ [cR.getD q 0] := by
              rw [List.take_succ_eq_append_getElem hq', List.getD_eq_getElem?_getD, List.getElem?_eq_getElem hq', Option.getD_some]
            have HTq := hide htq
            have hsn2 := HSm.out
            clear hy c5 htq hq'
            generalize cR.getD q 0 = a at *
            go_wp2_with fail
            refine (in_any wr _ _ sn HSn.out.rd (by omega) a).mono ?_
            rintro e w1 ⟨rfl, rfl⟩
            by_cases hal : a ∈ sn
            · rw [decide_eq_true hal]
              have HV2 : Hid (∀ t ∈ cR.take (q + 1), t ∈ sn) := hide (fun t ht => by
                rw [HTq.out, List.mem_append] at ht
                rcases ht with h | h
                · exact HV.out t h
                · simp at h; subst h; exact hal)
              clear hal d0 c0
              go_wp2
              go_roundw
              case rel => exact ⟨q + 1, sn, by omega, by go_num, HSn, hide (by have := HSm.out; omega), HU, HV2, HBq⟩
              case measure => simp [RowKit.intOf]; omega
            · rw [decide_eq_false hal]
              obtain ⟨ar, cr, hsr⟩ := own_shape HSn.out
              clear hal
              subst hsr
              go_wp2_with (refine wpList_append_own _ rfl (.tmp 52) (.tmp 61) 28 rfl w.heap.size 3 i3 (.int .i64 0) 1 8 Try.underlying28 hi hz hs hb rfl (by decide) _ sn.length _ rfl (World.ownsRow.alloc HSn.out _) (⟨w1.heap.size, 0, none⟩) 1 1 [.int .i64 a] rfl rfl (cell_one_new _ _ _) (by simp [Value.oneCell']) (by unfold maxLen; omega) (by omega) (by have := HBq.out.size; simp; omega) ?_; intro v' w6 hown hg6 _)
              have HB6 : Hid (Below w.heap.size w w6) := hide ((HBq.out.alloc HBq.out.size _).grown hg6 (by have := HBq.out.size; simp; omega) (fun j hj => (World.ownsRow.lt HSn.out j hj).1))
              have HO6 : Hid (Oi w6 w.heap.size v' (sn ++ [a])) := hide (by unfold Oi; rw [List.length_append, List.map_append]; exact hown)
              clear hown hg6 d0 c0
              go_roundw
              case rel =>
                refine ⟨q + 1, sn ++ [a], by omega, by go_num, HO6, hide (by rw [List.length_append]; have := HSm.out; simp; omega), hide (fun t ht => List.mem_append_left _ (HU.out t ht)), hide (fun t ht => ?_), HB6⟩
                rw [HTq.out, List.mem_append] at ht
                rcases ht with h | h
                · exact List.mem_append_left _ (HV.out t h)
                · exact List.mem_append_right _ h
              case measure => simp [RowKit.intOf]; omega
          · obtain rfl : q = rl := by omega
            have HD2 : Hid (∀ j c, j < k + 1 → l[j]? = some c → (c.c ≠ who ∧ who ∈ c.R) ∧ ∀ t ∈ c.R, t ∈ sn) := hide (fun j c hj hc => by
              by_cases hjk : j = k
              · subst hjk
                rw [HC.out] at hc
                cases hc
                refine ⟨HI.out, fun t ht => HV.out t ?_⟩
                rw [← HRl.out, List.take_length]; exact ht
              · obtain ⟨h1, h2⟩ := HKs.out.2.out j c (by omega) hc
                exact ⟨h1, fun t ht => HU.out t (h2 t ht)⟩)
            have hbig : ¬ ((sn.length : Int) ≤ (k : Int) + 1) := by
              obtain ⟨T, h1, h2, h3⟩ := HN.out k (by rw [HLn.out]; exact hlt) (fun j c hj hc => (HD2.out j c (by omega) hc).1)
              have h4 : T.length ≤ sn.length := nodup_le T sn h1 (fun t ht => by
                obtain ⟨j, c, g1, g2, g3⟩ := h3 t ht
                exact (HD2.out j c (by omega) g2).2 t g3)
              omega
            have HSm2 : Hid (sn.length ≤ rsum (l.take (k + 1))) := hide (by have := HSm.out; omega)
            have hsn2 := HSm.out
            obtain ⟨ar, cr, hsr⟩ := own_shape HSn.out
            subst hsr
            clear c5
            generalize hsl : sn.length = sl at *
            have HSL := hide hsl
            clear hsl
            go_wp2
            go_roundw
            case rel => exact ⟨k + 1, sn, by omega, by go_num, by assumption, hide (by rw [HSL.out]; exact HSm2.out), HD2, HBq⟩
            case measure => simp [RowKit.intOf]; omega
      · go_wp2_with fail
        refine (in_any wr S _ cR HC5.out (by rw [HRl.out]; omega) who).mono ?_
        rw [decide_eq_false hin]
        rintro e w1 ⟨rfl, rfl⟩
        go_wp2
        go_ret
        exact ⟨rfl, HB.out⟩
    · obtain rfl : k = m := by omega
      go_wp2
      go_ret
      exact ⟨rfl, HB.out⟩
end
end Go.Proofs.Ytngmnlmagbfijaa
