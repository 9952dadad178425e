import Derived.Test.YtbocpmcodlceoaaGreatML
namespace Go.Proofs.YtbocpmcodlceoaaGreat
open Go.ChangeShapes Go.WideShapes Go.ChangeAt Go.RowKit Go.Deep Go.Shelf

section
variable {rs : List (Option Er)} {K : List Rw} {last : Int}
theorem fd_one (tr : Tr rs last) {s a b : Int} (h1 : Fd rs s a) (h2 : Fd rs s b) : a = b := by
  rcases h1 with ⟨e1, n1⟩ | ⟨k1, r1, e1, h1, s1⟩
  · rcases h2 with ⟨e2, n2⟩ | ⟨k2, r2, e2, h2, s2⟩
    · rw [e1, e2]
    · exact absurd s2 (n1 k2 r2 h2)
  · rcases h2 with ⟨e2, n2⟩ | ⟨k2, r2, e2, h2, s2⟩
    · exact absurd s1 (n2 k1 r1 h1)
    · rw [e1, e2, tr.dis k1 k2 ⟨_, h1⟩ ⟨_, h2⟩ (by rw [ser_at h1, ser_at h2, s1, s2])]
end
section
variable {w : World} {R : Nat} {v : Value} {K : List Rw} {last : Int} {rs : List (Option Er)} {F : Nat → Prop}
set_option maxRecDepth 100000 in
set_option maxHeartbeats 3200000 in
theorem findD_any (h : RtAt w R v K last) (ha : Ag rs K) (hl : rs.length = 16) (s : Int) : Calls Tryz.prog 45 #[tp R, .int .i64 s] w fun x w' => ∃ z, x = .returned (.int .i64 z) ∧ Fd rs s z ∧ w' = w := by
  have hl := ha.len hl
  have HAg := hide ha
  have HR := hide h
  obtain ⟨a, c, hv⟩ := h.shape
  obtain ⟨L, hL⟩ : ∃ L, K.length = L := ⟨_, rfl⟩
  rw [hL] at hv
  have HL := hide hL
  subst hv
  rw [hL] at hl
  have c16 := h.rowc
  clear h hL ha
  go_enter Tryz.func45, Tryz.ntmps45
  go_wp2
  go_loopw [5] (fun x wr => ∃ k : Nat, k ≤ L ∧ x = .int .i64 (k : Int) ∧ Hid (∀ j y, j < k → K[j]? = some y → y.2.se ≠ s) ∧ wr = w) (fun x _ => L - (intOf x).toNat)
  case atStart => exact ⟨0, by omega, rfl, hide (fun j y hj => by omega), by first | rfl | trivial⟩
  case round =>
  obtain ⟨k, hk, rfl, KK, hw⟩ := hrel
  subst hw
  by_cases hlt : k < L
  · have hd : decide ((k : Int) < (L : Int)) = true := by simp; omega
    have hki : (k : Int) < (L : Int) := by omega
    obtain ⟨⟨ya, yr⟩, hy⟩ : ∃ y, K[k]? = some y := ⟨_, List.getElem?_eq_getElem (by rw [HL.out]; exact hlt)⟩
    obtain ⟨g, c', hv, hrow⟩ := HR.out.at hy
    rw [HL.out] at hv
    cases hv
    have r0 : wr.cell? ⟨g, k * 25, none⟩ = some (.int .i64 (ya : Int)) := hrow 0 _ rfl
    have r1 : wr.cell? ⟨g, k * 25 + 1, none⟩ = some (.int .i64 yr.se) := hrow 1 _ rfl
    have HY := hide hy
    clear hrow hy
    by_cases he : yr.se = s
    · have he1 : (yr.se == s) = true := by simp [he]
      have HE := hide he
      clear he
      go_wp2
      go_ret
      exact ⟨_, rfl, .inr ⟨ya, yr, rfl, (HAg.out.mem ya yr).1 (List.mem_of_getElem? HY.out), HE.out⟩, rfl⟩
    · have he1 : (yr.se == s) = false := by rw [beq_eq_false_iff_ne]; exact he
      have HN : Hid (∀ j y, j < k + 1 → K[j]? = some y → y.2.se ≠ s) := hide (fun j y hj hy => by
        by_cases e1 : j = k
        · subst e1; rw [HY.out] at hy; cases hy; exact he
        · exact KK.out j y (by omega) hy)
      clear he
      go_wp2
      go_roundw
      case rel => first | exact ⟨k + 1, by omega, by go_num, HN, by first | trivial | rfl⟩ | ((repeat apply Exists.intro); refine ⟨?_, rfl⟩; exact ⟨k + 1, by omega, by go_num, HN, by first | trivial | rfl⟩)
      case measure => simp [intOf]; omega
  · obtain rfl : k = L := by omega
    have hd : decide ((k : Int) < (k : Int)) = false := by simp
    go_wp2
    go_ret
    refine ⟨_, rfl, .inl ⟨rfl, fun m r hr => ?_⟩, rfl⟩
    obtain ⟨j, hj⟩ := List.getElem?_of_mem ((HAg.out.mem m r).2 hr)
    exact KK.out j (m, r) (by rw [← HL.out]; exact (List.getElem?_eq_some_iff.1 hj).1) hj
set_option maxHeartbeats 3200000 in
theorem childrenD_none (h : RtA R rs last w F) (hl : rs.length = 16) (e : Int) (hn : look rs e = none)  : Calls Tryz.prog 37 #[tp R, .int .i64 e] w fun x w' => x = .returned (.tuple #[.slice none 0 0, .int .i64 90]) ∧ w' = w := by
  obtain ⟨v, K, h, ha, he⟩ := h
  have HAt := hide (atb_any h ha hl e)
  have HN : Hid (∀ (n : Nat) (r : Er), e = (n : Int) → rs[n]? ≠ some (some r)) := hide (fun n r en hr => by
    rw [en, look_nat, hr] at hn; cases hn)
  clear h ha he hl hn
  go_enter Tryz.func37, Tryz.ntmps37
  go_wp2_with fail
  refine HAt.out.mono ?_
  rintro e1 w2 ⟨hw2, ⟨i, n, r, -, -, hen, hr⟩ | ⟨rfl, -⟩⟩
  · exact absurd hr (HN.out n r hen)
  · subst hw2
    clear HAt HN
    go_wp2
    go_ret2
    exact ⟨rfl, rfl⟩
set_option maxRecDepth 100000 in
set_option maxHeartbeats 3200000 in
theorem childrenD_some (h : RtA R rs last w F) (tr : Tr rs last) (n : Nat) (r : Er) (hr : rs[n]? = some (some r)) : Calls Tryz.prog 37 #[tp R, .int .i64 (n : Int)] w fun x w' => ∃ v, x = .returned (.tuple #[v, .int .i64 0]) ∧ w'.ownsRow w.heap.size 3 1 v (kids rs (n : Int)).length (numN (kids rs (n : Int))) ∧ Below w.heap.size w w' := by
  obtain ⟨v, K, h, ha, he⟩ := h
  obtain ⟨i3, hi3, hz3, hs3, hb3⟩ := info3'
  have hl := ha.len tr.len
  have HAt := hide (atb_any h ha tr.len (n : Int))
  have HEx := hide hr
  have HK := hide (ha.kids tr (n : Int))
  have HR := hide h
  obtain ⟨a, c, hv⟩ := h.shape
  obtain ⟨L, hL⟩ : ∃ L, K.length = L := ⟨_, rfl⟩
  rw [hL] at hv
  have HL := hide hL
  subst hv
  rw [hL] at hl
  clear h hL ha he hr tr
  go_enter Tryz.func37, Tryz.ntmps37
  go_wp2_with fail
  refine HAt.out.mono ?_
  rintro e1 w1 ⟨hw2, ⟨i', n', r', rfl, -, -, -⟩ | ⟨-, hno⟩⟩
  · subst hw2
    clear HAt HEx
    go_wp2
    go_loopw [7, 8] (fun rv x wr => ∃ k : Nat, k ≤ L ∧ x = .int .i64 (k : Int) ∧ ∃ (m : Nat) (a2 : Option Addr) (c2 : Nat), rv = .slice a2 m c2 ∧ m ≤ k ∧ Hid (m = (kf (n : Int) (K.take k)).length ∧ Below w1.heap.size w1 wr ∧ wr.ownsRow w1.heap.size 3 1 (.slice a2 m c2) m (numN (kf (n : Int) (K.take k))))) (fun _ x _ => L - (intOf x).toNat)
    case atStart => exact ⟨0, by omega, rfl, 0, none, 0, rfl, by omega, hide ⟨by simp [kf], Below.refl _ _, World.ownsRow_nil _ _ _ _⟩⟩
    case round =>
    obtain ⟨k, hk, rfl, m, a2, c2, rfl, hm, KK⟩ := hrel
    have hRr := HR.out.below KK.out.2.1
    have c16 := hRr.rowc
    by_cases hlt : k < L
    · have hd : decide ((k : Int) < (L : Int)) = true := by simp; omega
      have hki : (k : Int) < (L : Int) := by omega
      obtain ⟨⟨ya, yr⟩, hy⟩ : ∃ y, K[k]? = some y := ⟨_, List.getElem?_eq_getElem (by rw [HL.out]; exact hlt)⟩
      obtain ⟨g, c', hv, hrow⟩ := hRr.at hy
      rw [HL.out] at hv
      cases hv
      have r0 : wr.cell? ⟨g, k * 25, none⟩ = some (.int .i64 (ya : Int)) := hrow 0 _ rfl
      have r2 : wr.cell? ⟨g, k * 25 + 2, none⟩ = some (.int .i64 yr.pa) := hrow 2 _ rfl
      have HB := hide KK.out.2.1
      have HO := hide KK.out.2.2
      have hsz := KK.out.2.1.size
      by_cases t1 : yr.pa = (n : Int)
      · have t1' : (yr.pa == (n : Int)) = true := by simp [t1]
        have HF := hide (kf_yes hy t1)
        clear t1 hRr hrow hy
        go_upto_region 7 with (at_builtin; refine wpList_append_own_at _ rfl _ _ 50 rfl w1.heap.size 3 i3 (.int .i64 0) 1 8 Tryz.underlying50 hi3 hz3 hs3 hb3 rfl (by decide) (.slice a2 m c2) m (numN (kf (n : Int) (K.take k))) rfl (HO.out.alloc _) ⟨wr.heap.size, 0, none⟩ 1 1 [.int .i64 (ya : Int)] rfl rfl (cell_one_new _ _ _) (by simp [Value.oneCell']) (by unfold maxLen; omega) (by omega) (by simp; omega) ?_; intro v2 w2 ho2 hg2 _ hl2)
        obtain ⟨a3, c3, rfl⟩ := own_shape ho2
        have HEnd : Hid (m + 1 = (kf (n : Int) (K.take (k + 1))).length ∧ Below w1.heap.size w1 w2 ∧ w2.ownsRow w1.heap.size 3 1 (.slice a3 (m + 1) c3) (m + 1) (numN (kf (n : Int) (K.take (k + 1))))) := hide ⟨by rw [HF.out, List.length_append, ← KK.out.1]; rfl, (HB.out.alloc hsz _).grown hg2 (by simp; omega) (fun j hj => (World.ownsRow.lt HO.out j hj).1), by rw [HF.out, numN_app]; exact ho2⟩
        clear ho2 hg2 hl2 KK HB HO r0 r2 c16
        go_wp2
        go_roundw
        case rel => first | exact ⟨k + 1, by omega, by go_num, m + 1, a3, c3, rfl, by omega, HEnd⟩ | ((repeat apply Exists.intro); refine ⟨?_, rfl⟩; exact ⟨k + 1, by omega, by go_num, m + 1, a3, c3, rfl, by omega, HEnd⟩)
        case measure => simp [intOf]; omega
      · have t1' : (yr.pa == (n : Int)) = false := by simp [t1]
        have HEnd : Hid (m = (kf (n : Int) (K.take (k + 1))).length ∧ Below w1.heap.size w1 wr ∧ wr.ownsRow w1.heap.size 3 1 (.slice a2 m c2) m (numN (kf (n : Int) (K.take (k + 1))))) := hide (by rw [kf_no hy t1]; exact KK.out)
        clear t1 hRr hrow hy
        go_wp2
        go_roundw
        case rel => first | exact ⟨k + 1, by omega, by go_num, m, a2, c2, rfl, by omega, HEnd⟩ | ((repeat apply Exists.intro); refine ⟨?_, rfl⟩; exact ⟨k + 1, by omega, by go_num, m, a2, c2, rfl, by omega, HEnd⟩)
        case measure => simp [intOf]; omega
    · obtain rfl : k = L := by omega
      have hd : decide ((k : Int) < (k : Int)) = false := by simp
      have HEnd : Hid (Below w1.heap.size w1 wr ∧ wr.ownsRow w1.heap.size 3 1 (.slice a2 m c2) (kids rs (n : Int)).length (numN (kids rs (n : Int)))) := hide (by
        obtain ⟨q1, q2, q3⟩ := KK.out
        rw [List.take_of_length_le (by rw [HL.out]; exact Nat.le_refl _), HK.out] at q1 q3
        exact ⟨q2, by rw [← q1]; exact q3⟩)
      clear KK hRr
      go_wp2
      go_ret2
      exact ⟨_, rfl, HEnd.out.2, HEnd.out.1⟩
  · exact absurd HEx.out (hno n r rfl)
set_option maxRecDepth 100000 in
set_option maxHeartbeats 3200000 in
theorem liveD_any (h : RtA R rs last w F) (hl : rs.length = 16) : Calls Tryz.prog 47 #[tp R] w fun x w' => ∃ v, x = .returned v ∧ w'.ownsRow w.heap.size 3 1 v (lvL rs).length (numN (lvL rs)) ∧ Below w.heap.size w w' := by
  obtain ⟨v, K, h, ha, he⟩ := h
  obtain ⟨i3, hi3, hz3, hs3, hb3⟩ := info3'
  have HAt : Hid (∀ W, Below w.heap.size w W → ∀ e, Calls Tryz.prog 59 #[tp R, .int .i64 e] W fun x w' => w' = W ∧ ((∃ (i n : Nat) (r : Er), x = .returned (.int .i64 (i : Int)) ∧ K[i]? = some (n, r) ∧ e = (n : Int) ∧ rs[n]? = some (some r)) ∨ (x = .returned (.int .i64 (-1)) ∧ ∀ (n : Nat) (r : Er), e = (n : Int) → rs[n]? ≠ some (some r)))) := hide (fun W hW e => atb_any (h.below hW) ha hl e)
  have HE0 : Hid (prs rs 16 = []) := hide (by unfold prs; rw [List.drop_of_length_le (by omega)]; rfl)
  have H16 : Hid (rs.length = 16) := hide hl
  have HLv : Hid (lvL rs = [] ++ (prs rs 0).map Prod.fst) := hide rfl
  clear h ha he hl
  go_enter Tryz.func47, Tryz.ntmps47
  go_wp2
  go_loopw [3, 4] (fun rv x wr => ∃ k : Nat, k ≤ 16 ∧ x = .int .i64 (k : Int) ∧ ∃ (m : Nat) (a2 : Option Addr) (c2 : Nat) (acc : List Nat), rv = .slice a2 m c2 ∧ m ≤ k ∧ Hid (m = acc.length ∧ Below w.heap.size w wr ∧ wr.ownsRow w.heap.size 3 1 (.slice a2 m c2) m (numN acc) ∧ lvL rs = acc ++ (prs rs k).map Prod.fst)) (fun _ x _ => 16 - (intOf x).toNat)
  case atStart => exact ⟨0, by omega, rfl, 0, none, 0, [], rfl, by omega, hide ⟨rfl, Below.refl _ _, World.ownsRow_nil _ _ _ _, HLv.out⟩⟩
  case round =>
  obtain ⟨k, hk, rfl, m, a2, c2, acc, rfl, hm, KK⟩ := hrel
  by_cases hlt : k < 16
  · have hd : decide ((k : Int) < 16) = true := by simp; omega
    go_wp2_with fail
    refine (HAt.out wr KK.out.2.1 (k : Int)).mono ?_
    rintro e1 w1 ⟨hw1, ⟨i, n', r, rfl, -, hn', hr⟩ | ⟨rfl, hno⟩⟩
    · subst hw1
      obtain rfl : k = n' := by omega
      have hin : decide (0 ≤ (i : Int)) = true := by simp
      have HB := hide KK.out.2.1
      have HO := hide KK.out.2.2.1
      have hsz := KK.out.2.1.size
      have HF : Hid (lvL rs = (acc ++ [k]) ++ (prs rs (k + 1)).map Prod.fst) := hide (by rw [KK.out.2.2.2, prs_some hr]; simp)
      clear hr hn'
      go_upto_region 4 with (at_builtin; refine wpList_append_own_at _ rfl _ _ 50 rfl w.heap.size 3 i3 (.int .i64 0) 1 8 Tryz.underlying50 hi3 hz3 hs3 hb3 rfl (by decide) (.slice a2 m c2) m (numN acc) rfl (HO.out.alloc _) ⟨w1.heap.size, 0, none⟩ 1 1 [.int .i64 (k : Int)] rfl rfl (cell_one_new _ _ _) (by simp [Value.oneCell']) (by unfold maxLen; omega) (by omega) (by simp; omega) ?_; intro v2 w2 ho2 hg2 _ hl2)
      obtain ⟨a3, c3, rfl⟩ := own_shape ho2
      have HEnd : Hid (m + 1 = (acc ++ [k]).length ∧ Below w.heap.size w w2 ∧ w2.ownsRow w.heap.size 3 1 (.slice a3 (m + 1) c3) (m + 1) (numN (acc ++ [k])) ∧ lvL rs = (acc ++ [k]) ++ (prs rs (k + 1)).map Prod.fst) := hide ⟨by rw [List.length_append, ← KK.out.1]; rfl, (HB.out.alloc hsz _).grown hg2 (by simp; omega) (fun j hj => (World.ownsRow.lt HO.out j hj).1), by rw [numN_app]; exact ho2, HF.out⟩
      clear ho2 hg2 hl2 KK HB HO HF
      go_wp2
      go_roundw
      case rel => first | exact ⟨k + 1, by omega, by go_num, m + 1, a3, c3, acc ++ [k], rfl, by omega, HEnd⟩ | ((repeat apply Exists.intro); refine ⟨?_, rfl⟩; exact ⟨k + 1, by omega, by go_num, m + 1, a3, c3, acc ++ [k], rfl, by omega, HEnd⟩)
      case measure => simp [intOf]; omega
    · subst hw1
      have HEnd : Hid (m = acc.length ∧ Below w.heap.size w w1 ∧ w1.ownsRow w.heap.size 3 1 (.slice a2 m c2) m (numN acc) ∧ lvL rs = acc ++ (prs rs (k + 1)).map Prod.fst) := hide ⟨KK.out.1, KK.out.2.1, KK.out.2.2.1, by
        rw [KK.out.2.2.2, prs_none]
        rw [look_nat]
        cases hq : rs[k]? with
        | none => rfl
        | some o =>
          cases o with
          | none => rfl
          | some r => exact absurd hq (hno k r rfl)⟩
      clear hno KK
      go_wp2
      go_roundw
      case rel => first | exact ⟨k + 1, by omega, by go_num, m, a2, c2, acc, rfl, by omega, HEnd⟩ | ((repeat apply Exists.intro); refine ⟨?_, rfl⟩; exact ⟨k + 1, by omega, by go_num, m, a2, c2, acc, rfl, by omega, HEnd⟩)
      case measure => simp [intOf]; omega
  · obtain rfl : k = 16 := by omega
    have hd : decide ((16 : Int) < 16) = false := by decide
    have HEnd : Hid (Below w.heap.size w wr ∧ wr.ownsRow w.heap.size 3 1 (.slice a2 m c2) (lvL rs).length (numN (lvL rs))) := hide (by
      obtain ⟨q1, q2, q3, q4⟩ := KK.out
      rw [HE0.out] at q4
      simp only [List.map_nil, List.append_nil] at q4
      rw [q4, ← q1]
      exact ⟨q2, q3⟩)
    clear KK
    go_wp2
    go_ret
    exact ⟨_, rfl, HEnd.out.2, HEnd.out.1⟩
end
end Go.Proofs.YtbocpmcodlceoaaGreat

namespace Go.Proofs.YtbocpmcodlceoaaGreat
open Go.ChangeShapes Go.WideShapes Go.ChangeAt Go.RowKit Go.Deep Go.Shelf

section
variable {w : World} {R : Nat} {v : Value} {K : List Rw} {last : Int} {rs : List (Option Er)} {F : Nat → Prop}
theorem fl_len (ha : Ag rs K) (tr : Tr rs last) (e m k : Nat) : (e :: (kf (e : Int) (K.take k)).flatMap (wk rs m)).length ≤ 4096 := by
  have h1 := wk_len' tr (m + 1) e
  have h2 := kf_split ha tr (e : Int) k
  simp only [wk] at h1
  rw [h2, List.flatMap_append] at h1
  simp only [List.length_cons, List.length_append] at h1 ⊢
  omega
set_option maxRecDepth 100000 in
set_option maxHeartbeats 3200000 in
theorem walkD_zero (h : RtAt w R v K last) (ha : Ag rs K) (hl : rs.length = 16) (e : Nat) : Calls Tryz.prog 67 #[tp R, .int .i64 (e : Int), .int .i64 16] w fun x w' => ∃ v, x = .returned v ∧ w'.ownsRow w.heap.size 3 1 v (wk rs 0 e).length (numN (wk rs 0 e)) ∧ Below w.heap.size w w' := by
  have hl := ha.len hl
  have hb0 := (Below.refl w.heap.size w).alloc (Nat.le_refl _) (.cells #[.int .i64 (e : Int)] 3)
  have hr0 : (w.alloc (.cells #[.int .i64 (e : Int)] 3)).ownsRow w.heap.size 3 1 (.slice (some ⟨w.heap.size, 0, none⟩) 1 1) 1 [.int .i64 (e : Int)] := ⟨rfl, .inr ⟨w.heap.size, 1, _, rfl, Nat.le_refl _, heap_alloc_new w _, Nat.le_refl _, by unfold maxLen; omega, rfl, rfl⟩⟩
  have HB0 := hide hb0
  have HR0 := hide hr0
  have h := h.below hb0
  have HR := hide h
  obtain ⟨a, c, hv⟩ := h.shape
  obtain ⟨L, hL⟩ : ∃ L, K.length = L := ⟨_, rfl⟩
  rw [hL] at hv
  have HL := hide hL
  subst hv
  rw [hL] at hl
  have c16 := h.rowc
  clear h hL ha hb0 hr0
  go_enter Tryz.func67, Tryz.ntmps67
  go_upto_region 3 with fail
  generalize w.alloc (.cells #[.int .i64 (e : Int)] 3) = w0 at *
  go_loopw [7, 8] (fun u x wr => ∃ k : Nat, k ≤ L ∧ x = .int .i64 (k : Int) ∧ u = .slice (some ⟨w.heap.size, 0, none⟩) 1 1 ∧ wr = w0) (fun _ x _ => L - (intOf x).toNat)
  case atStart => exact ⟨0, by omega, rfl, rfl, by first | rfl | trivial⟩
  case round =>
  obtain ⟨k, hk, rfl, rfl, hw⟩ := hrel
  subst hw
  by_cases hlt : k < L
  · have hd : decide ((k : Int) < (L : Int)) = true := by simp; omega
    have hki : (k : Int) < (L : Int) := by omega
    obtain ⟨⟨ya, yr⟩, hy⟩ : ∃ y, K[k]? = some y := ⟨_, List.getElem?_eq_getElem (by rw [HL.out]; exact hlt)⟩
    obtain ⟨g, c', hv, hrow⟩ := HR.out.at hy
    rw [HL.out] at hv
    cases hv
    have r2 : wr.cell? ⟨g, k * 25 + 2, none⟩ = some (.int .i64 yr.pa) := hrow 2 _ rfl
    clear hrow hy
    by_cases t1 : yr.pa = (e : Int)
    · have t1' : (yr.pa == (e : Int)) = true := by simp [t1]
      clear t1
      go_wp2
      go_roundw
      case rel => first | exact ⟨k + 1, by omega, by go_num, rfl, by first | trivial | rfl⟩ | ((repeat apply Exists.intro); refine ⟨?_, rfl⟩; exact ⟨k + 1, by omega, by go_num, rfl, by first | trivial | rfl⟩)
      case measure => simp [intOf]; omega
    · have t1' : (yr.pa == (e : Int)) = false := by simp [t1]
      clear t1
      go_wp2
      go_roundw
      case rel => first | exact ⟨k + 1, by omega, by go_num, rfl, by first | trivial | rfl⟩ | ((repeat apply Exists.intro); refine ⟨?_, rfl⟩; exact ⟨k + 1, by omega, by go_num, rfl, by first | trivial | rfl⟩)
      case measure => simp [intOf]; omega
  · obtain rfl : k = L := by omega
    have hd : decide ((k : Int) < (k : Int)) = false := by simp
    go_wp2
    go_ret
    exact ⟨_, rfl, HR0.out, HB0.out⟩
set_option maxRecDepth 100000 in
set_option maxHeartbeats 6400000 in
theorem walkD_succ (tr : Tr rs last) (ha : Ag rs K) (d m : Nat) (hd16 : d < 16) (HI : ∀ (c : Nat) (w : World), RtAt w R v K last → Calls Tryz.prog 67 #[tp R, .int .i64 (c : Int), .int .i64 ((d : Int) + 1)] w fun x w' => ∃ v, x = .returned v ∧ w'.ownsRow w.heap.size 3 1 v (wk rs m c).length (numN (wk rs m c)) ∧ Below w.heap.size w w') (e : Nat) (h : RtAt w R v K last) : Calls Tryz.prog 67 #[tp R, .int .i64 (e : Int), .int .i64 (d : Int)] w fun x w' => ∃ v, x = .returned v ∧ w'.ownsRow w.heap.size 3 1 v (wk rs (m + 1) e).length (numN (wk rs (m + 1) e)) ∧ Below w.heap.size w w' := by
  obtain ⟨i3, hi3, hz3, hs3, hb3⟩ := info3'
  have hl := ha.len tr.len
  have HLn : Hid (∀ k, (e :: (kf (e : Int) (K.take k)).flatMap (wk rs m)).length ≤ 4096) := hide (fun k => fl_len ha tr e m k)
  have HKd := hide (ha.kids tr (e : Int))
  have hb0 := (Below.refl w.heap.size w).alloc (Nat.le_refl _) (.cells #[.int .i64 (e : Int)] 3)
  have hr0 : (w.alloc (.cells #[.int .i64 (e : Int)] 3)).ownsRow w.heap.size 3 1 (.slice (some ⟨w.heap.size, 0, none⟩) 1 1) 1 [.int .i64 (e : Int)] := ⟨rfl, .inr ⟨w.heap.size, 1, _, rfl, Nat.le_refl _, heap_alloc_new w _, Nat.le_refl _, by unfold maxLen; omega, rfl, rfl⟩⟩
  have HB0 := hide hb0
  have HR0 := hide hr0
  have HR := hide h
  obtain ⟨a, c, hv⟩ := h.shape
  obtain ⟨L, hL⟩ : ∃ L, K.length = L := ⟨_, rfl⟩
  rw [hL] at hv
  have HL := hide hL
  subst hv
  rw [hL] at hl
  have HIh := hide HI
  have hdd : decide ((d : Int) < 16) = true := by simp; omega
  have hdw : IntKind.i64.wrap ((d : Int) + 1) = (d : Int) + 1 := wrap64 _ (by omega) (by omega)
  clear h hL ha tr hb0 hr0 HI hd16
  go_enter Tryz.func67, Tryz.ntmps67
  go_upto_region 3 with fail
  generalize w.alloc (.cells #[.int .i64 (e : Int)] 3) = w0 at *
  go_loopw [7, 8] (fun u x wr => ∃ k : Nat, k ≤ L ∧ x = .int .i64 (k : Int) ∧ ∃ (n : Nat) (a2 : Option Addr) (c2 : Nat), u = .slice a2 n c2 ∧ Hid (n = (e :: (kf (e : Int) (K.take k)).flatMap (wk rs m)).length ∧ Below w.heap.size w wr ∧ wr.ownsRow w.heap.size 3 1 (.slice a2 n c2) n (numN (e :: (kf (e : Int) (K.take k)).flatMap (wk rs m))))) (fun _ x _ => L - (intOf x).toNat)
  case atStart => exact ⟨0, by omega, rfl, 1, some ⟨w.heap.size, 0, none⟩, 1, rfl, hide ⟨by simp [kf], HB0.out, HR0.out⟩⟩
  case round =>
  clear HB0 HR0
  obtain ⟨k, hk, rfl, n, a2, c2, rfl, KK⟩ := hrel
  have hRr := HR.out.below KK.out.2.1
  have c16 := hRr.rowc
  by_cases hlt : k < L
  · have hd : decide ((k : Int) < (L : Int)) = true := by simp; omega
    have hki : (k : Int) < (L : Int) := by omega
    obtain ⟨⟨ya, yr⟩, hy⟩ : ∃ y, K[k]? = some y := ⟨_, List.getElem?_eq_getElem (by rw [HL.out]; exact hlt)⟩
    obtain ⟨g, c', hv, hrow⟩ := hRr.at hy
    rw [HL.out] at hv
    cases hv
    have r0 : wr.cell? ⟨g, k * 25, none⟩ = some (.int .i64 (ya : Int)) := hrow 0 _ rfl
    have r2 : wr.cell? ⟨g, k * 25 + 2, none⟩ = some (.int .i64 yr.pa) := hrow 2 _ rfl
    by_cases t1 : yr.pa = (e : Int)
    · have t1' : (yr.pa == (e : Int)) = true := by simp [t1]
      have HW := hide (HIh.out ya wr hRr)
      have HF : Hid ((e :: (kf (e : Int) (K.take (k + 1))).flatMap (wk rs m)) = (e :: (kf (e : Int) (K.take k)).flatMap (wk rs m)) ++ wk rs m ya) := hide (by rw [kf_yes hy t1]; simp)
      have HL1 := hide (HLn.out (k + 1))
      clear t1 hRr hrow hy
      go_wp2_with fail
      refine HW.out.mono ?_
      rintro x2 w2 ⟨v2, rfl, hv2, hb2⟩
      obtain ⟨g2, cb, rfl⟩ : ∃ g cq, v2 = .slice (some ⟨g, 0, none⟩) (wk rs m ya).length cq := by
        obtain ⟨_, ⟨_, h0⟩ | ⟨g, cp, cur, h0, _⟩⟩ := hv2
        · cases m <;> simp [wk] at h0
        · exact ⟨g, cp, h0⟩
      have hg2 := World.ownsRow.lt hv2 g2 rfl
      generalize hfl : (e :: (kf (e : Int) (K.take k)).flatMap (wk rs m)) = fl at *
      generalize hbl : wk rs m ya = bl at *
      have hlen : n + bl.length ≤ 4096 := by
        have h1 := HL1.out
        rw [HF.out, List.length_append, ← KK.out.1] at h1
        exact h1
      have HK0 : Hid (Below w.heap.size w w2 ∧ w2.ownsRow w.heap.size 3 1 (.slice a2 n c2) n (numN (fl ++ bl.take 0)) ∧ w2.ownsRow 0 3 1 (.slice (some ⟨g2, 0, none⟩) bl.length cb) bl.length (numN bl) ∧ (Value.slice a2 n c2).ownBlock ≠ some g2 ∧ g2 < w2.heap.size) := hide ⟨KK.out.2.1.trans (hb2.mono KK.out.2.1.size), by rw [List.take_zero, List.append_nil]; exact own_below KK.out.2.2 hb2, own_low hv2 (Nat.zero_le _), fun e9 => by have := ownsRow_lt KK.out.2.2 e9; omega, hg2.2⟩
      have HKn := hide KK.out.1
      clear hv2 hb2 hg2 HW KK r0 r2 c16 HL1
      obtain ⟨nb, hnb⟩ : ∃ nb, bl.length = nb := ⟨_, rfl⟩
      have HNB := hide hnb
      rw [hnb] at hlen HK0 ⊢
      clear hnb
      go_upto_region 8 with fail
      go_loopw [7, 10] (fun u x wr => ∃ j : Nat, j ≤ nb ∧ x = .int .i64 (j : Int) ∧ ∃ (n3 : Nat) (a3 : Option Addr) (c3 : Nat), u = .slice a3 n3 c3 ∧ n3 = n + j ∧ Hid (Below w.heap.size w wr ∧ wr.ownsRow w.heap.size 3 1 (.slice a3 n3 c3) n3 (numN (fl ++ bl.take j)) ∧ wr.ownsRow 0 3 1 (.slice (some ⟨g2, 0, none⟩) nb cb) nb (numN bl) ∧ (Value.slice a3 n3 c3).ownBlock ≠ some g2 ∧ g2 < wr.heap.size)) (fun _ x _ => nb - (intOf x).toNat)
      case atStart => exact ⟨0, by omega, rfl, n, a2, c2, rfl, rfl, HK0⟩
      case round =>
      clear HK0
      obtain ⟨j, hj, rfl, n3, a3, c3, rfl, hn3, KJ⟩ := hrel
      by_cases hjl : j < nb
      · have hdj : decide ((j : Int) < (nb : Int)) = true := by simp; omega
        have hjI : (j : Int) < (nb : Int) := by omega
        obtain ⟨z, hz⟩ : ∃ z, bl[j]? = some z := ⟨_, List.getElem?_eq_getElem (by rw [HNB.out]; exact hjl)⟩
        have cz : wr.cell? ⟨g2, j, none⟩ = some (.int .i64 (z : Int)) := by
          have := World.ownsRow.cells KJ.out.2.2.1 rfl j (.int .i64 (z : Int)) (by simp [numN, hz])
          rw [add0] at this
          exact this
        have HT := hide (take_get hz)
        have HO := hide KJ.out.2.1
        have HB := hide KJ.out.1
        have hsz := KJ.out.1.size
        clear hz
        go_upto_region 9 with (at_builtin; refine wpList_append_own_at _ rfl _ _ 50 rfl w.heap.size 3 i3 (.int .i64 0) 1 8 Tryz.underlying50 hi3 hz3 hs3 hb3 rfl (by decide) (.slice a3 n3 c3) n3 (numN (fl ++ bl.take j)) rfl (HO.out.alloc _) ⟨wr.heap.size, 0, none⟩ 1 1 [.int .i64 (z : Int)] rfl rfl (cell_one_new _ _ _) (by simp [Value.oneCell']) (by unfold maxLen; omega) (by omega) (by simp; omega) ?_; intro v4 w4 ho2 hg2 _ hl2)
        obtain ⟨a4, c4, rfl⟩ := own_shape ho2
        have hs4 := hg2.size
        simp only [World.alloc, Array.size_push] at hs4
        have HEnd : Hid (Below w.heap.size w w4 ∧ w4.ownsRow w.heap.size 3 1 (.slice a4 (n3 + 1) c4) (n3 + 1) (numN (fl ++ bl.take (j + 1))) ∧ w4.ownsRow 0 3 1 (.slice (some ⟨g2, 0, none⟩) nb cb) nb (numN bl) ∧ (Value.slice a4 (n3 + 1) c4).ownBlock ≠ some g2 ∧ g2 < w4.heap.size) := hide (by
          obtain ⟨q2, q3, q4, q5, q6⟩ := KJ.out
          refine ⟨(q2.alloc hsz _).grown hg2 (by simp; omega) (fun b hb' => (World.ownsRow.lt q3 b hb').1), by rw [HT.out, ← List.append_assoc, numN_app]; exact ho2, ?_, ?_, by omega⟩
          · refine ownsRow_keep q4 (fun b hb' => ?_)
            have hb9 : g2 = b := by simpa [Value.ownBlock] using hb'
            subst hb9
            rw [hg2.block g2 (by simp; omega) (fun e9 => q5 e9.symm), Below.heap_alloc _ _ _ q6]
          · intro e9
            rcases hl2 with h9 | h9
            · exact q5 (by rw [← h9]; exact e9)
            · rw [h9] at e9
              simp at e9
              omega)
        clear ho2 hg2 hl2 KJ HO HB HT cz hs4
        go_wp2
        go_roundw
        case rel => first | exact ⟨j + 1, by omega, by go_num, n3 + 1, a4, c4, rfl, by omega, HEnd⟩ | ((repeat apply Exists.intro); refine ⟨?_, rfl⟩; exact ⟨j + 1, by omega, by go_num, n3 + 1, a4, c4, rfl, by omega, HEnd⟩)
        case measure => simp [intOf]; omega
      · obtain rfl : j = nb := by omega
        have hdj : decide ((j : Int) < (j : Int)) = false := by simp
        have HEnd : Hid (n3 = (e :: (kf (e : Int) (K.take (k + 1))).flatMap (wk rs m)).length ∧ Below w.heap.size w wr ∧ wr.ownsRow w.heap.size 3 1 (.slice a3 n3 c3) n3 (numN (e :: (kf (e : Int) (K.take (k + 1))).flatMap (wk rs m)))) := hide (by
          obtain ⟨q2, q3, _⟩ := KJ.out
          rw [HF.out]
          rw [List.take_of_length_le (by rw [HNB.out]; exact Nat.le_refl _)] at q3
          exact ⟨by rw [List.length_append, ← HKn.out, HNB.out]; exact hn3, q2, q3⟩)
        clear KJ
        go_wp2
        go_roundw
        case rel => first | exact ⟨k + 1, by omega, by go_num, n3, a3, c3, rfl, HEnd⟩ | ((repeat apply Exists.intro); refine ⟨?_, rfl⟩; exact ⟨k + 1, by omega, by go_num, n3, a3, c3, rfl, HEnd⟩)
        case measure => simp [intOf]; omega
    · have t1' : (yr.pa == (e : Int)) = false := by simp [t1]
      have HEnd : Hid (n = (e :: (kf (e : Int) (K.take (k + 1))).flatMap (wk rs m)).length ∧ Below w.heap.size w wr ∧ wr.ownsRow w.heap.size 3 1 (.slice a2 n c2) n (numN (e :: (kf (e : Int) (K.take (k + 1))).flatMap (wk rs m)))) := hide (by rw [kf_no hy t1]; exact KK.out)
      clear t1 hRr hrow hy KK
      go_wp2
      go_roundw
      case rel => first | exact ⟨k + 1, by omega, by go_num, n, a2, c2, rfl, HEnd⟩ | ((repeat apply Exists.intro); refine ⟨?_, rfl⟩; exact ⟨k + 1, by omega, by go_num, n, a2, c2, rfl, HEnd⟩)
      case measure => simp [intOf]; omega
  · obtain rfl : k = L := by omega
    have hd : decide ((k : Int) < (k : Int)) = false := by simp
    have HEnd : Hid (Below w.heap.size w wr ∧ wr.ownsRow w.heap.size 3 1 (.slice a2 n c2) (wk rs (m + 1) e).length (numN (wk rs (m + 1) e))) := hide (by
      obtain ⟨q1, q2, q3⟩ := KK.out
      rw [List.take_of_length_le (by rw [HL.out]; exact Nat.le_refl _), HKd.out] at q1 q3
      exact ⟨q2, by show World.ownsRow _ _ _ _ _ (e :: (kids rs (e : Int)).flatMap (wk rs m)).length _; rw [← q1]; exact q3⟩)
    clear KK hRr
    go_wp2
    go_ret
    exact ⟨_, rfl, HEnd.out.2, HEnd.out.1⟩
end
end Go.Proofs.YtbocpmcodlceoaaGreat

namespace Go.Proofs.YtbocpmcodlceoaaGreat
open Go.ChangeShapes Go.WideShapes Go.ChangeAt Go.RowKit Go.Deep Go.Shelf

section
variable {rs : List (Option Er)} {last : Int}
theorem flatMap_congr' {α β : Type} {f g : α → List β} : ∀ {l : List α}, (∀ x ∈ l, f x = g x) → l.flatMap f = l.flatMap g
  | [], _ => rfl
  | x :: l, h => by
    rw [List.flatMap_cons, List.flatMap_cons, h x List.mem_cons_self, flatMap_congr' (fun y hy => h y (List.mem_cons_of_mem _ hy))]
theorem wk_stable : ∀ (n e : Nat), Dp rs n e → wk rs (n + 1) e = wk rs n e
  | 0, _, h => h.elim
  | n + 1, e, h => by
    show e :: (kids rs (e : Int)).flatMap (wk rs (n + 1)) = e :: (kids rs (e : Int)).flatMap (wk rs n)
    rw [flatMap_congr' (fun k hk => wk_stable n k (h k hk))]
/-- where the law's look upwards stands -/
def Up (rs : List (Option Er)) (f : Int) (rest : List Int) : Prop := (f = -1 ∧ rest = []) ∨ ∃ (k : Nat) (r : Er) (l : List Int), f = (k : Int) ∧ rs[k]? = some (some r) ∧ rest = (k : Int) :: l ∧ Line rs r.pa l
theorem up_next (iv : Tr rs last) {k : Nat} {r : Er} {l : List Int} (hr : rs[k]? = some (some r)) (hL : Line rs r.pa l) : Up rs r.pa l := by
  by_cases h0 : k = 0
  · subst h0
    obtain ⟨r0, h1, h2⟩ := iv.root
    rw [hr] at h1
    obtain rfl : r = r0 := by simpa using h1
    left
    refine ⟨h2, ?_⟩
    rw [h2] at hL
    rcases line_cases hL with ⟨_, h⟩ | ⟨_, _, h, _⟩
    · exact h
    · cases h
  · right
    obtain ⟨p, h1, ⟨rp, h2⟩, _⟩ := iv.par k r hr h0
    rw [h1] at hL
    rcases line_cases hL with ⟨h, _⟩ | ⟨_, l', h, h', hl⟩
    · rw [look_at h2] at h; cases h
    · rw [look_at h2] at h
      cases h
      exact ⟨p, rp, l', h1, h2, h', hl⟩
theorem up_first (iv : Tr rs last) {k : Nat} {r : Er} (hr : rs[k]? = some (some r)) : Up rs (k : Int) (ln rs (k : Int)) := by
  right
  have h1 := (ln_line iv (k : Int)).1
  generalize ln rs (k : Int) = l at *
  rcases line_cases h1 with ⟨h, _⟩ | ⟨_, l', h, h', hl⟩
  · rw [look_at hr] at h; cases h
  · rw [look_at hr] at h
    cases h
    exact ⟨k, r, l', rfl, hr, h', hl⟩
theorem yng_16 (tr : Tr rs last) {e : Nat} (he : Lv rs e) : (yng rs e).length < 16 := by
  unfold yng
  have h1 : ((List.range 16).filter (fun i => (core rs i).isSome && decide (ser rs e < ser rs i))).length < (List.range 16).length := by
    rw [List.length_filter_lt_length_iff_exists]
    exact ⟨e, List.mem_range.2 (lv_lt tr he), by simp⟩
  simpa using h1
theorem wk_16 (tr : Tr rs last) {e : Nat} (he : Lv rs e) : wk rs 16 e = wk rs 17 e := (wk_stable 16 e (dp_of tr 16 e (yng_16 tr he))).symm
end
section
variable {w : World} {R : Nat} {v : Value} {K : List Rw} {last : Int} {rs : List (Option Er)} {F : Nat → Prop}
theorem walkD_any (tr : Tr rs last) (ha : Ag rs K) : ∀ (m d : Nat), d + m = 16 → ∀ (e : Nat) (w : World), RtAt w R v K last → Calls Tryz.prog 67 #[tp R, .int .i64 (e : Int), .int .i64 (d : Int)] w fun x w' => ∃ v, x = .returned v ∧ w'.ownsRow w.heap.size 3 1 v (wk rs m e).length (numN (wk rs m e)) ∧ Below w.heap.size w w'
  | 0, d, hd, e, w, h => by
    obtain rfl : d = 16 := by omega
    exact walkD_zero h ha tr.len e
  | m + 1, d, hd, e, w, h => walkD_succ tr ha d m (by omega) (fun c w h => by
      have h1 := walkD_any tr ha m (d + 1) (by omega) c w h
      have e1 : ((d + 1 : Nat) : Int) = (d : Int) + 1 := by omega
      rw [e1] at h1
      exact h1) e h
theorem at_no (h : RtAt w R v K last) (ha : Ag rs K) (hl : rs.length = 16) {e : Int} (hn : look rs e = none) : Calls Tryz.prog 59 #[tp R, .int .i64 e] w fun x w' => x = .returned (.int .i64 (-1)) ∧ w' = w := by
  refine (atb_any h ha hl e).mono ?_
  rintro x w' ⟨rfl, ⟨i, n, r, -, -, rfl, hr⟩ | ⟨rfl, -⟩⟩
  · rw [look_nat, hr] at hn; cases hn
  · exact ⟨rfl, rfl⟩
theorem at_yes (h : RtAt w R v K last) (ha : Ag rs K) (hl : rs.length = 16) {i n : Nat} {r : Er} (hi : K[i]? = some (n, r)) : Calls Tryz.prog 59 #[tp R, .int .i64 (n : Int)] w fun x w' => x = .returned (.int .i64 (i : Int)) ∧ w' = w := by
  have hr := (ha.mem n r).1 (List.mem_of_getElem? hi)
  refine (atb_any h ha hl (n : Int)).mono ?_
  rintro x w' ⟨rfl, ⟨i', n', r', rfl, hi', hn', -⟩ | ⟨-, hno⟩⟩
  · obtain rfl : i' = i := ha.once hi' hi (by simp; omega)
    exact ⟨rfl, rfl⟩
  · exact absurd hr (hno n r rfl)
set_option maxHeartbeats 3200000 in
theorem treeD_none (h : RtA R rs last w F) (hl : rs.length = 16) (e : Int) (hn : look rs e = none)  : Calls Tryz.prog 39 #[tp R, .int .i64 e] w fun x w' => x = .returned (.tuple #[.slice none 0 0, .int .i64 90]) ∧ w' = w := by
  obtain ⟨v, K, h, ha, he⟩ := h
  have HAt := hide (atb_any h ha hl e)
  have HN : Hid (∀ (n : Nat) (r : Er), e = (n : Int) → rs[n]? ≠ some (some r)) := hide (fun n r en hr => by
    rw [en, look_nat, hr] at hn; cases hn)
  clear h ha he hl hn
  go_enter Tryz.func39, Tryz.ntmps39
  go_wp2_with fail
  refine HAt.out.mono ?_
  rintro e1 w2 ⟨hw2, ⟨i, n, r, -, -, hen, hr⟩ | ⟨rfl, -⟩⟩
  · exact absurd hr (HN.out n r hen)
  · subst hw2
    clear HAt HN
    go_wp2
    go_ret2
    exact ⟨rfl, rfl⟩
set_option maxHeartbeats 3200000 in
theorem treeD_some (h : RtA R rs last w F) (tr : Tr rs last) (n : Nat) (r : Er) (hr : rs[n]? = some (some r)) : Calls Tryz.prog 39 #[tp R, .int .i64 (n : Int)] w fun x w' => ∃ v, x = .returned (.tuple #[v, .int .i64 0]) ∧ w'.ownsRow w.heap.size 3 1 v (wk rs 17 n).length (numN (wk rs 17 n)) ∧ Below w.heap.size w w' := by
  obtain ⟨v, K, h, ha, he⟩ := h
  obtain ⟨i, hi⟩ := List.getElem?_of_mem ((ha.mem n r).2 hr)
  have HAt := hide (at_yes h ha tr.len hi)
  have HW : Hid (Calls Tryz.prog 67 #[tp R, .int .i64 (n : Int), .int .i64 0] w fun x w' => ∃ v, x = .returned v ∧ w'.ownsRow w.heap.size 3 1 v (wk rs 17 n).length (numN (wk rs 17 n)) ∧ Below w.heap.size w w') := hide (by
    have h1 := walkD_any tr ha 16 0 rfl n w h
    rw [wk_16 tr ⟨r, hr⟩] at h1
    exact h1)
  clear h ha he hi hr tr
  go_enter Tryz.func39, Tryz.ntmps39
  go_wp2_with fail
  refine HAt.out.mono ?_
  rintro e1 w1 ⟨rfl, rfl⟩
  go_wp2_with fail
  refine HW.out.mono ?_
  rintro e1 w2 ⟨v, rfl, ho, hb⟩
  have HO := hide ho
  have HB := hide hb
  clear ho hb
  go_wp2
  go_ret2
  exact ⟨_, rfl, HO.out, HB.out⟩
set_option maxHeartbeats 3200000 in
theorem upD_some (h : RtAt w R v K last) (ha : Ag rs K) (hl : rs.length = 16) (n : Nat) (r : Er) (hr : rs[n]? = some (some r)) : Calls Tryz.prog 78 #[tp R, .int .i64 (n : Int)] w fun x w' => x = .returned (.int .i64 r.pa) ∧ w' = w := by
  obtain ⟨i, hi⟩ := List.getElem?_of_mem ((ha.mem n r).2 hr)
  have HAt := hide (at_yes h ha hl hi)
  obtain ⟨g, c, hv, hrow⟩ := h.at hi
  have hil := (List.getElem?_eq_some_iff.1 hi).1
  obtain ⟨L, hL⟩ : ∃ L, K.length = L := ⟨_, rfl⟩
  rw [hL] at hv hil
  have hii : (i : Int) < (L : Int) := by omega
  subst hv
  have c0 := h.rowc
  have r2 := hrow 2 _ rfl
  clear h ha hl hi hr hrow hL
  go_enter Tryz.func78, Tryz.ntmps78
  go_wp2_with fail
  refine HAt.out.mono ?_
  rintro e1 w1 ⟨rfl, rfl⟩
  go_wp2
  go_ret
  exact ⟨rfl, rfl⟩
set_option maxRecDepth 8000 in
set_option maxHeartbeats 3200000 in
theorem insideD_loop (h : RtAt w R v K last) (ha : Ag rs K) (tr : Tr rs last) (z e : Nat) (rz re : Er) (hz : rs[z]? = some (some rz)) (he : rs[e]? = some (some re)) : Calls Tryz.prog 41 #[tp R, .int .i64 (z : Int), .int .i64 (e : Int)] w fun x w' => x = .returned (.bool (decide ((z : Int) ∈ ln rs (e : Int)))) ∧ w' = w := by
  obtain ⟨i, hi⟩ := List.getElem?_of_mem ((ha.mem e re).2 he)
  obtain ⟨j, hj⟩ := List.getElem?_of_mem ((ha.mem z rz).2 hz)
  have HA1 := hide (at_yes h ha tr.len hi)
  have HA2 := hide (at_yes h ha tr.len hj)
  have HU := hide (up_first tr he)
  have HL := hide (ln_line tr (e : Int)).2
  have HUp : Hid (∀ (n : Nat) (r : Er), rs[n]? = some (some r) → Calls Tryz.prog 78 #[tp R, .int .i64 (n : Int)] w fun x w' => x = .returned (.int .i64 r.pa) ∧ w' = w) := hide (fun n r hr => upD_some h ha tr.len n r hr)
  have HTr := hide tr
  obtain ⟨b, hb⟩ : ∃ b : Bool, decide ((z : Int) ∈ ln rs (e : Int)) = b := ⟨_, rfl⟩
  have HBq := hide hb
  rw [hb]
  clear h ha tr hi hj hz he hb
  have hi0 : decide ((i : Int) < 0) = false := by simp
  have hj0 : decide ((j : Int) < 0) = false := by simp
  go_enter Tryz.func41, Tryz.ntmps41
  go_wp2_with fail
  refine HA1.out.mono ?_
  rintro e1 w1 ⟨rfl, rfl⟩
  go_wp2_with fail
  refine HA2.out.mono ?_
  rintro e1 w2 ⟨rfl, rfl⟩
  go_upto_region 6 with fail
  go_loopw [2, 9] (fun x y wr => ∃ (k : Nat) (f : Int) (rest : List Int), x = .int .i64 f ∧ y = .int .i64 (k : Int) ∧ Hid (Up rs f rest) ∧ k + rest.length ≤ 16 ∧ Hid (decide ((z : Int) ∈ rest) = b) ∧ wr = w2) (fun _ y _ => 17 - (intOf y).toNat)
  case atStart => exact ⟨0, _, _, rfl, rfl, HU, by have := HL.out; omega, HBq, by first | rfl | trivial⟩
  case round =>
  clear HU HL HBq
  obtain ⟨k, f, rest, rfl, rfl, KU, hk, KQ, hw⟩ := hrel
  subst hw
  rcases KU.out with ⟨rfl, rfl⟩ | ⟨n, r, l, rfl, hr, rfl, hL⟩
  · have hk1 : decide ((k : Int) ≤ 16) = true := by simp at hk ⊢; omega
    have hq : b = false := by rw [← KQ.out]; simp
    subst hq
    go_wp2
    go_ret
    exact ⟨rfl, rfl⟩
  · have hk1 : decide ((k : Int) ≤ 16) = true := by simp at hk ⊢; omega
    have hn0 : decide ((n : Int) ≥ 0) = true := by simp
    have HN := hide (up_next HTr.out hr hL)
    have HC := hide (HUp.out n r hr)
    have hk4 : k + 1 + l.length ≤ 16 := by simp at hk; omega
    clear hr hL hk KU
    by_cases t1 : (n : Int) = (z : Int)
    · have t1' : ((n : Int) == (z : Int)) = true := by simp [t1]
      have hq : b = true := by rw [← KQ.out]; simp [t1]
      subst hq
      clear t1
      go_wp2
      go_ret
      exact ⟨rfl, rfl⟩
    · have t1' : ((n : Int) == (z : Int)) = false := by rw [beq_eq_false_iff_ne]; exact t1
      have K2 : Hid (decide ((z : Int) ∈ l) = b) := hide (by
        rw [← KQ.out]
        have : (z : Int) ∈ (n : Int) :: l ↔ (z : Int) ∈ l := by
          rw [List.mem_cons]
          exact ⟨fun h => h.elim (fun e => absurd e.symm t1) id, .inr⟩
        simp only [this])
      clear t1 KQ
      go_wp2_with fail
      refine HC.out.mono ?_
      rintro e1 w3 ⟨rfl, rfl⟩
      go_wp2
      go_roundw
      case rel =>
        first
          | exact ⟨k + 1, _, l, rfl, by go_num, HN, hk4, K2, by first | rfl | trivial⟩
          | ((repeat apply Exists.intro); refine ⟨?_, rfl⟩; exact ⟨k + 1, _, l, rfl, by go_num, HN, hk4, K2, by first | rfl | trivial⟩)
      case measure => simp [intOf]; omega
set_option maxHeartbeats 3200000 in
theorem insideD_no1 (h : RtAt w R v K last) (ha : Ag rs K) (hl : rs.length = 16) (z e : Int) (he : look rs e = none) : Calls Tryz.prog 41 #[tp R, .int .i64 z, .int .i64 e] w fun x w' => x = .returned (.bool false) ∧ w' = w := by
  have HA1 := hide (at_no h ha hl he)
  have HA2 : Hid (Calls Tryz.prog 59 #[tp R, .int .i64 z] w fun x w' => ∃ j : Int, x = .returned (.int .i64 j) ∧ w' = w) := hide (by
    refine (atb_any h ha hl z).mono ?_
    rintro x w' ⟨rfl, ⟨i, n, r, rfl, -, -, -⟩ | ⟨rfl, -⟩⟩
    · exact ⟨_, rfl, rfl⟩
    · exact ⟨_, rfl, rfl⟩)
  clear h ha hl he
  go_enter Tryz.func41, Tryz.ntmps41
  go_wp2_with fail
  refine HA1.out.mono ?_
  rintro e1 w1 ⟨rfl, rfl⟩
  go_wp2_with fail
  refine HA2.out.mono ?_
  rintro e1 w2 ⟨j, rfl, rfl⟩
  go_wp2
  go_ret
  exact ⟨rfl, rfl⟩
set_option maxHeartbeats 3200000 in
theorem insideD_no2 (h : RtAt w R v K last) (ha : Ag rs K) (hl : rs.length = 16) (z : Int) (e : Nat) (re : Er) (he : rs[e]? = some (some re)) (hz : look rs z = none) : Calls Tryz.prog 41 #[tp R, .int .i64 z, .int .i64 (e : Int)] w fun x w' => x = .returned (.bool false) ∧ w' = w := by
  obtain ⟨i, hi⟩ := List.getElem?_of_mem ((ha.mem e re).2 he)
  have HA1 := hide (at_yes h ha hl hi)
  have HA2 := hide (at_no h ha hl hz)
  clear h ha hl he hz hi
  have hi0 : decide ((i : Int) < 0) = false := by simp
  go_enter Tryz.func41, Tryz.ntmps41
  go_wp2_with fail
  refine HA1.out.mono ?_
  rintro e1 w1 ⟨rfl, rfl⟩
  go_wp2_with fail
  refine HA2.out.mono ?_
  rintro e1 w2 ⟨rfl, rfl⟩
  go_wp2
  go_ret
  exact ⟨rfl, rfl⟩
theorem insideD_any (h : RtA R rs last w F) (tr : Tr rs last) (z e : Int) : Calls Tryz.prog 41 #[tp R, .int .i64 z, .int .i64 e] w fun x w' => x = .returned (.bool (decide (z ∈ ln rs e))) ∧ w' = w := by
  obtain ⟨v, K, h, ha, _⟩ := h
  cases he : look rs e with
  | none =>
    have h1 : decide (z ∈ ln rs e) = false := by
      have := (ln_line tr e).1
      rcases line_cases this with ⟨_, h2⟩ | ⟨_, _, h2, _⟩
      · rw [h2]; simp
      · rw [he] at h2; cases h2
    rw [h1]
    exact insideD_no1 h ha tr.len z e he
  | some re =>
    obtain ⟨n, rfl, hn⟩ := look_some he
    cases hz : look rs z with
    | none =>
      have h1 : decide (z ∈ ln rs (n : Int)) = false := by
        rw [decide_eq_false_iff_not]
        intro hm
        obtain ⟨k, r, rfl, hr⟩ := line_lives (ln_line tr (n : Int)).1 z hm
        rw [look_nat, hr] at hz; cases hz
      rw [h1]
      exact insideD_no2 h ha tr.len z n re hn hz
    | some rz =>
      obtain ⟨m, rfl, hm⟩ := look_some hz
      exact insideD_loop h ha tr m n rz re hm hn
set_option maxHeartbeats 3200000 in
theorem runsD_no (h : RtAt w R v K last) (ha : Ag rs K) (hl : rs.length = 16) (e : Int) (he : look rs e = none) : Calls Tryz.prog 43 #[tp R, .int .i64 e] w fun x w' => x = .returned (.bool false) ∧ w' = w := by
  have HA1 := hide (at_no h ha hl he)
  clear h ha hl he
  go_enter Tryz.func43, Tryz.ntmps43
  go_wp2_with fail
  refine HA1.out.mono ?_
  rintro e1 w1 ⟨rfl, rfl⟩
  go_wp2
  go_ret
  exact ⟨rfl, rfl⟩
set_option maxRecDepth 8000 in
set_option maxHeartbeats 3200000 in
theorem runsD_loop (h : RtAt w R v K last) (ha : Ag rs K) (tr : Tr rs last) (e : Nat) (re : Er) (he : rs[e]? = some (some re)) : Calls Tryz.prog 43 #[tp R, .int .i64 (e : Int)] w fun x w' => x = .returned (.bool (decide (re.st = 1) && !((ln rs (e : Int)).any (flg rs)))) ∧ w' = w := by
  obtain ⟨i, hi⟩ := List.getElem?_of_mem ((ha.mem e re).2 he)
  have HA1 := hide (at_yes h ha tr.len hi)
  have HU := hide (up_first tr he)
  have HLn := hide (ln_line tr (e : Int)).2
  have HTr := hide tr
  have HRw : Hid (∀ (n : Nat) (r : Er), rs[n]? = some (some r) → ∃ i, K[i]? = some (n, r)) := hide (fun n r hr => List.getElem?_of_mem ((ha.mem n r).2 hr))
  have HAy : Hid (∀ (i n : Nat) (r : Er), K[i]? = some (n, r) → Calls Tryz.prog 59 #[tp R, .int .i64 (n : Int)] w fun x w' => x = .returned (.int .i64 (i : Int)) ∧ w' = w) := hide (fun i n r hi => at_yes h ha tr.len hi)
  obtain ⟨g, c, hv, hrow⟩ := h.at hi
  have hil := (List.getElem?_eq_some_iff.1 hi).1
  obtain ⟨L, hL⟩ : ∃ L, K.length = L := ⟨_, rfl⟩
  rw [hL] at hv hil
  have hii : (i : Int) < (L : Int) := by omega
  subst hv
  have HH := hide h
  have HL := hide hL
  have c0 := h.rowc
  have r3 := hrow 3 _ rfl
  clear h ha tr hi he hrow hL
  by_cases hs : re.st = 1
  · have hsb : (re.st == 1) = true := by simp [hs]
    obtain ⟨b, hb⟩ : ∃ b : Bool, (ln rs (e : Int)).any (flg rs) = b := ⟨_, rfl⟩
    have HBq := hide hb
    have hds : decide (re.st = 1) = true := by simp [hs]
    rw [hb, hds, Bool.true_and]
    rw [hs] at r3
    clear hb hs hds hsb
    go_enter Tryz.func43, Tryz.ntmps43
    go_wp2_with fail
    refine HA1.out.mono ?_
    rintro e1 w1 ⟨rfl, rfl⟩
    go_upto_region 5 with fail
    clear r3
    go_loopw [1, 6] (fun x y wr => ∃ (k : Nat) (f : Int) (rest : List Int), x = .int .i64 f ∧ y = .int .i64 (k : Int) ∧ Hid (Up rs f rest) ∧ k + rest.length ≤ 16 ∧ Hid (rest.any (flg rs) = b) ∧ wr = w1) (fun _ y _ => 17 - (intOf y).toNat)
    case atStart => exact ⟨0, _, _, rfl, rfl, HU, by have := HLn.out; omega, HBq, by first | rfl | trivial⟩
    case round =>
    clear HU HLn HBq
    obtain ⟨k, f, rest, rfl, rfl, KU, hk, KQ, hw⟩ := hrel
    subst hw
    rcases KU.out with ⟨rfl, rfl⟩ | ⟨n, r, l, rfl, hr, rfl, hLi⟩
    · have hk1 : decide ((k : Int) ≤ 16) = true := by simp at hk ⊢; omega
      have hq : b = false := by rw [← KQ.out]; rfl
      subst hq
      go_wp2
      go_ret
      exact ⟨rfl, rfl⟩
    · have hk1 : decide ((k : Int) ≤ 16) = true := by simp at hk ⊢; omega
      have hn0 : decide ((n : Int) ≥ 0) = true := by simp
      have HN := hide (up_next HTr.out hr hLi)
      obtain ⟨i2, hi2⟩ := HRw.out n r hr
      have HC := hide (HAy.out i2 n r hi2)
      have hfl := flg_at hr
      have hk4 : k + 1 + l.length ≤ 16 := by simp at hk; omega
      have r2 := rt_cell HH.out hi2 (j := 2) rfl
      have r6 := rt_cell HH.out hi2 (j := 6) rfl
      have hil2 : (i2 : Int) < (L : Int) := by have := (List.getElem?_eq_some_iff.1 hi2).1; rw [HL.out] at this; omega
      have hi20 : decide ((i2 : Int) < 0) = false := by simp
      simp only at r2 r6
      clear hr hLi hk KU hi2
      go_wp2_with fail
      refine HC.out.mono ?_
      rintro e1 w3 ⟨rfl, rfl⟩
      cases hf : r.fz
      · rw [hf] at r6
        have K2 : Hid (l.any (flg rs) = b) := hide (by
          have := KQ.out
          rw [List.any_cons, ← hfl, hf, Bool.false_or] at this
          exact this)
        clear KQ hfl hf
        go_wp2
        go_roundw
        case rel =>
          first
            | exact ⟨k + 1, _, l, rfl, by go_num, HN, hk4, K2, by first | rfl | trivial⟩
            | ((repeat apply Exists.intro); refine ⟨?_, rfl⟩; exact ⟨k + 1, _, l, rfl, by go_num, HN, hk4, K2, by first | rfl | trivial⟩)
        case measure => simp [intOf]; omega
      · rw [hf] at r6
        have hq : b = true := by
          rw [← KQ.out, List.any_cons, ← hfl, hf, Bool.true_or]
        subst hq
        clear KQ hfl hf
        go_wp2
        go_ret
        exact ⟨rfl, rfl⟩
  · have hsb : (re.st != 1) = true := by simp [hs]
    have hi0 : decide ((i : Int) < 0) = false := by simp
    have hds : decide (re.st = 1) = false := by simp [hs]
    rw [hds, Bool.false_and]
    clear hs hds
    simp only at r3
    go_enter Tryz.func43, Tryz.ntmps43
    go_wp2_with fail
    refine HA1.out.mono ?_
    rintro e1 w1 ⟨rfl, rfl⟩
    go_wp2
    go_ret
    exact ⟨rfl, rfl⟩
theorem runsD_any (h : RtA R rs last w F) (tr : Tr rs last) (e : Int) : Calls Tryz.prog 43 #[tp R, .int .i64 e] w fun x w' => x = .returned (.bool (rn rs e)) ∧ w' = w := by
  obtain ⟨v, K, h, ha, _⟩ := h
  unfold rn
  cases he : look rs e with
  | none => exact runsD_no h ha tr.len e he
  | some re =>
    obtain ⟨n, rfl, hn⟩ := look_some he
    exact runsD_loop h ha tr n re hn
end
end Go.Proofs.YtbocpmcodlceoaaGreat
