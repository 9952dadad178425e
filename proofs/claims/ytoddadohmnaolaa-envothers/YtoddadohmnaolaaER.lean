import Derived.Test.YtoddadohmnaolaaEQ
namespace Go.Proofs.Ytoddadohmnaolaa
open Go.RowKit Go.Shelf

section
variable {rs : List (Option Er)}
/-- the children, by serial -/
def kids (rs : List (Option Er)) (e : Int) : List Nat := (kidsU rs e).mergeSort (fun a b => decide (ser rs a ≤ ser rs b))
theorem kidsU_lv {e : Int} {k : Nat} (h : k ∈ kidsU rs e) : Lv rs k := by
  unfold kidsU fitK at h
  exact kid_lv (List.mem_filter.1 h).2
theorem kids_eq (hD : Dis rs) {e : Int} {ts : List Nat} (hp : List.Perm ts (kidsU rs e)) (hs : ts.Pairwise (fun a b => ser rs a ≤ ser rs b)) : ts = kids rs e := by
  have hm : (kids rs e).Perm (kidsU rs e) := List.mergeSort_perm _ _
  refine List.Perm.eq_of_pairwise (le := fun a b => ser rs a ≤ ser rs b) (fun a b ha hb h1 h2 => hD a b (kidsU_lv (hp.mem_iff.1 ha)) (kidsU_lv (hm.mem_iff.1 hb)) (by omega)) hs ?_ (hp.trans hm.symm)
  refine (List.pairwise_mergeSort (le := fun a b => decide (ser rs a ≤ ser rs b)) (fun a b c h1 h2 => ?_) (fun a b => ?_) (kidsU rs e)).imp (fun {a b} h => of_decide_eq_true h)
  · simp only [decide_eq_true_eq] at h1 h2 ⊢; omega
  · by_cases h : ser rs a ≤ ser rs b <;> simp [h]; omega
theorem kids_mem {e : Int} {k : Nat} : k ∈ kids rs e ↔ k ∈ kidsU rs e := (List.mergeSort_perm (kidsU rs e) _).mem_iff
theorem children_any (w : World) (F : Nat → Prop) (T : Nat) (last : Int) (h : Et w F T rs last) (hD : Dis rs) (e : Int) :
    Calls Try.prog 64 #[.pointer (some ⟨T, 0, none⟩), .int .i64 e] w fun x W' => ∃ v, x = .returned v ∧ W'.ownsRow w.heap.size 3 1 v (kids rs e).length (numN (kids rs e)) ∧ Below w.heap.size w W' := by
  obtain ⟨S, G, m, h⟩ := h
  refine ((callsIn_wide (n := 3)).1 (children_in 3 (Nat.le_refl _) w F T rs last S G m h hD e)).mono ?_
  rintro x W' ⟨v, ts, rfl, hp, hs, ho, hb⟩
  obtain rfl := kids_eq hD hp hs
  exact ⟨v, rfl, ho, hb⟩
/-- the walk, no deeper than n -/
def wk (rs : List (Option Er)) : Nat → Nat → List Nat
  | 0, e => [e]
  | n + 1, e => e :: (kids rs (e : Int)).flatMap (wk rs n)
/-- no deeper than n -/
def Dp (rs : List (Option Er)) : Nat → Nat → Prop
  | 0, _ => False
  | n + 1, e => ∀ k ∈ kids rs (e : Int), Dp rs n k
theorem wk_take {n e k : Nat} {c : Nat} (hc : (kids rs (e : Int))[k]? = some c) : ((kids rs (e : Int)).take (k + 1)).flatMap (wk rs n) = ((kids rs (e : Int)).take k).flatMap (wk rs n) ++ wk rs n c := by
  have hk := (List.getElem?_eq_some_iff.1 hc).1
  rw [List.take_succ_eq_append_getElem hk, List.flatMap_append]
  rw [List.getElem?_eq_getElem hk] at hc
  simp [Option.some.inj hc]
theorem wk_part (n e k : Nat) : (e :: ((kids rs (e : Int)).take k).flatMap (wk rs n)).length ≤ (wk rs (n + 1) e).length := by
  simp only [wk, List.length_cons]
  have h : ((kids rs (e : Int)).take k).flatMap (wk rs n) <+: (kids rs (e : Int)).flatMap (wk rs n) := by
    conv => rhs; rw [← List.take_append_drop k (kids rs (e : Int)), List.flatMap_append]
    exact List.prefix_append _ _
  have := h.length_le
  omega
theorem numN_app (a b : List Nat) : numN (a ++ b) = numN a ++ numN b := by simp [numN]
theorem numN_one (a : List Nat) : ∀ u ∈ numN a, u.oneCell' = true := by
  intro u hu; simp [numN] at hu; obtain ⟨k, _, rfl⟩ := hu; rfl
end
set_option maxRecDepth 100000 in
set_option maxHeartbeats 3200000 in
theorem walk_any (rs : List (Option Er)) (hD : Dis rs) (hlen : ∀ n e, (wk rs n e).length ≤ 4096) (hkl : ∀ e, (kids rs e).length ≤ 4096) : ∀ (n : Nat) (e : Nat) (w : World) (F : Nat → Prop) (T : Nat) (last : Int), Et w F T rs last → Dp rs n e →
    Calls Try.prog 49 #[.pointer (some ⟨T, 0, none⟩), .int .i64 (e : Int)] w fun x W' => ∃ v, x = .returned v ∧ W'.ownsRow w.heap.size 3 1 v (wk rs n e).length (numN (wk rs n e)) ∧ Below w.heap.size w W'
  | 0, _, _, _, _, _, _, h => h.elim
  | n + 1, e, w, F, T, last, hE, hDp => by
    obtain ⟨i3, hi, hz, hs, hb⟩ := info3'
    have HI := hide (walk_any rs hD hlen hkl n)
    have HDp : Hid (∀ k ∈ kids rs (e : Int), Dp rs n k) := hDp
    have HE := hide hE
    have hb0 := (Below.refl w.heap.size w).alloc (Nat.le_refl _) (.cells #[.int .i64 (e : Int)] 3)
    have hr0 : (w.alloc (.cells #[.int .i64 (e : Int)] 3)).ownsRow w.heap.size 3 1 (.slice (some ⟨w.heap.size, 0, none⟩) 1 1) 1 [.int .i64 (e : Int)] := ⟨rfl, .inr ⟨w.heap.size, 1, _, rfl, Nat.le_refl _, heap_alloc_new w _, Nat.le_refl _, by unfold maxLen; omega, rfl, rfl⟩⟩
    have HB0 := hide hb0
    have HR0 := hide hr0
    have HCh := hide (children_any _ F T last (hE.below hb0) hD (e : Int))
    have HL := hide (hlen (n + 1) e)
    have hkl' := hkl (e : Int)
    have HP := hide (fun k => wk_part (rs := rs) n e k)
    clear hb0 hr0 hE hDp hkl
    go_enter Try.func49, Try.ntmps49
    go_wp2_with fail
    refine HCh.out.mono ?_
    rintro x1 w1 ⟨kv, rfl, hk, hb1⟩
    have HR1 := hide (own_below HR0.out hb1)
    have HB1 := hide (HB0.out.trans (hb1.mono HB0.out.size))
    have hs1 : w.heap.size < w1.heap.size := by have := hb1.size; simp at this; omega
    obtain ⟨ka, kc, rfl⟩ := own_shape hk
    have hkg : ∀ b, (Value.slice ka (kids rs (e : Int)).length kc).ownBlock = some b → w.heap.size < b ∧ b < w1.heap.size := fun b e9 => by
      have h9 := World.ownsRow.lt hk b e9
      have h8 := h9.1
      simp at h8
      exact ⟨h8, h9.2⟩
    have HK1 := hide (own_low hk (Nat.zero_le _))
    have HKg := hide hkg
    clear hk hb1 HR0 HB0 HCh hkg
    generalize hL : (kids rs (e : Int)).length = L at *
    go_upto_region 3 with fail
    have HU0 : Hid (∀ b, (Value.slice (some ⟨w.heap.size, 0, none⟩) 1 1).ownBlock = some b → b = w.heap.size ∨ w1.heap.size ≤ b) := hide (fun b e9 => .inl (by simpa [Value.ownBlock] using e9.symm))
    go_loopw [5, 14] (fun u x wr => ∃ k : Nat, k ≤ L ∧ x = .int .i64 (k : Int) ∧ Hid (wr.ownsRow w.heap.size 3 1 u (e :: ((kids rs (e : Int)).take k).flatMap (wk rs n)).length (numN (e :: ((kids rs (e : Int)).take k).flatMap (wk rs n)))) ∧ Hid (∀ b, u.ownBlock = some b → b = w.heap.size ∨ w1.heap.size ≤ b) ∧ Hid (wr.ownsRow 0 3 1 (.slice ka L kc) L (numN (kids rs (e : Int)))) ∧ Hid (Below w.heap.size w wr) ∧ Hid (w1.heap.size ≤ wr.heap.size)) (fun _ x _ => L - (intOf x).toNat)
    case atStart => exact ⟨0, by omega, rfl, HR1, HU0, HK1, HB1, Nat.le_refl _⟩
    case round =>
    clear HR1 HU0 HK1 HB1
    obtain ⟨k, hk, rfl, KR, KU, KK, KB, KS⟩ := hrel
    by_cases hlt : k < L
    · have hd : decide ((k : Int) < (L : Int)) = true := by simp; omega
      have hk3 : (k : Int) < (L : Int) := by omega
      obtain ⟨c, hc⟩ : ∃ c, (kids rs (e : Int))[k]? = some c := ⟨_, List.getElem?_eq_getElem (by omega)⟩
      obtain ⟨kg, rfl, hck⟩ : ∃ kg, ka = some ⟨kg, 0, none⟩ ∧ wr.cell? ⟨kg, k, none⟩ = some (.int .i64 (c : Int)) := by
        have h9 := KK.out
        obtain ⟨_, ⟨h0, _⟩ | ⟨g, cp, cur, h0, _⟩⟩ := KK.out
        · injection h0 with _ h8 _; omega
        · cases h0
          refine ⟨g, rfl, ?_⟩
          have := World.ownsRow.cells h9 rfl k (.int .i64 (c : Int)) (by simp [numN, hc])
          rw [add0] at this
          exact this
      have HW := hide (HI.out c wr F T last (HE.out.keep KB.out.size (fun b hb => KB.out.block b (HE.out.lt b hb))) (HDp.out c (List.mem_of_getElem? hc)))
      have HT := hide (wk_take (rs := rs) (n := n) hc)
      have HP1 := hide (HP.out (k + 1))
      have hg9 := HKg.out kg rfl
      clear HI HDp HP
      go_wp2_with fail
      refine HW.out.mono ?_
      rintro x2 w2 ⟨v2, rfl, hv2, hb2⟩
      have KR2 := hide (own_below KR.out hb2)
      have KK2 := hide (own_below KK.out hb2)
      have KB2 := hide (KB.out.trans (hb2.mono KB.out.size))
      have hs2 : w1.heap.size ≤ w2.heap.size := Nat.le_trans KS.out hb2.size
      obtain ⟨g2, c2, rfl, hc2⟩ : ∃ g cq, v2 = .slice (some ⟨g, 0, none⟩) (wk rs n c).length cq ∧ ∀ j u, (numN (wk rs n c))[j]? = some u → w2.cell? ((⟨g, 0, none⟩ : Addr).add j) = some u := by
        have h9 := hv2
        obtain ⟨_, ⟨_, h0⟩ | ⟨g, cp, cur, h0, _⟩⟩ := hv2
        · cases n <;> simp [wk] at h0
        · subst h0
          exact ⟨g, cp, rfl, fun j u hj => World.ownsRow.cells h9 rfl j u hj⟩
      obtain ⟨ua, uc, rfl⟩ := own_shape KR2.out
      rw [HT.out, ← List.cons_append, List.length_append] at HP1
      have hl9 := HL.out
      have hl8 := HP1.out
      clear hv2 hb2 HW KR KK KB KS hck
      generalize hF : (e :: ((kids rs (e : Int)).take k).flatMap (wk rs n)) = fl at *
      go_upto_region 6 with (at_builtin; refine wpList_append_own_at _ rfl _ _ 22 rfl w.heap.size 3 i3 (.int .i64 0) 1 8 Try.underlying22 hi hz hs hb rfl (by decide) _ _ _ rfl KR2.out ⟨g2, 0, none⟩ _ c2 (numN (wk rs n c)) rfl (by rw [numN_len]; omega) hc2 (numN_one _) (by unfold maxLen; omega) (by omega) (Nat.le_trans (Nat.le_of_lt hs1) hs2) ?_; intro v3 w3 hown3 hg3 _ hlo3)
      have hg4 : w2.grownBy w3 (Value.slice ua fl.length uc).ownBlock := hg3
      have hlo4 : v3.ownBlock = (Value.slice ua fl.length uc).ownBlock ∨ v3.ownBlock = some w2.heap.size := hlo3
      have K1 : Hid (w3.ownsRow w.heap.size 3 1 v3 (e :: ((kids rs (e : Int)).take (k + 1)).flatMap (wk rs n)).length (numN (e :: ((kids rs (e : Int)).take (k + 1)).flatMap (wk rs n)))) := by
        rw [HT.out, ← List.cons_append, hF, numN_app, List.length_append]
        exact hide hown3
      have K2 : Hid (∀ b, v3.ownBlock = some b → b = w.heap.size ∨ w1.heap.size ≤ b) := hide (fun b e9 => by
        rcases hlo4 with h9 | h9
        · rw [h9] at e9; exact KU.out b e9
        · rw [h9] at e9; cases e9; exact .inr hs2)
      have K3 : Hid (w3.ownsRow 0 3 1 (.slice (some ⟨kg, 0, none⟩) L kc) L (numN (kids rs (e : Int)))) := hide (KK2.out.kept hg4 (.inr (fun e9 => by
        rcases KU.out kg e9.symm with h9 | h9 <;> omega)))
      have K4 : Hid (Below w.heap.size w w3) := hide (KB2.out.grown hg4 KB2.out.size (fun j ej => by rcases KU.out j ej with h9 | h9 <;> omega))
      have K5 : Hid (w1.heap.size ≤ w3.heap.size) := hide (Nat.le_trans hs2 hg3.size)
      clear hown3 hg3 hlo3 hg4 hlo4 KR2 KK2 KB2 KU HP1 HT
      go_wp2
      go_roundw
      case rel =>
        first
          | exact ⟨k + 1, by omega, by go_num, K1, K2, K3, K4, K5⟩
          | ((repeat apply Exists.intro); refine ⟨?_, rfl⟩; exact ⟨k + 1, by omega, by go_num, K1, K2, K3, K4, K5⟩)
      case measure => simp [intOf]; omega
    · obtain rfl : k = L := by omega
      have hd : decide ((k : Int) < (k : Int)) = false := by simp
      have h9 := KR.out
      rw [← hL, List.take_length] at h9
      have KF := hide h9
      clear h9
      go_wp2
      go_ret
      exact ⟨_, rfl, KF.out, KB.out⟩
end Go.Proofs.Ytoddadohmnaolaa
