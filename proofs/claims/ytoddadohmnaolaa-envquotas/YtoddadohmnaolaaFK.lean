import Derived.Test.YtoddadohmnaolaaFJ
namespace Go.Proofs.Ytoddadohmnaolaa
open Go.RowKit Go.Shelf

section
variable {w w' w1 : World} {F : Nat → Prop} {T B : Nat} {rs : List (Option Er)} {last : Int}
set_option maxRecDepth 100000 in
set_option maxHeartbeats 3200000 in
theorem noted_regs (h : Ns w F T B rs last) (t e n m : Int) (q : Qt) (g : Nat → Nat) (pc : Nat) (on : Bool) : Calls Try.prog 16 #[.pointer (some ⟨B, 0, none⟩), .pointer (some ⟨T, 0, none⟩), .agg #[.int .i64 5, .int .i64 t, .int .i64 e, .int .i64 n, .int .i64 m, .int .i64 q.f, .int .i64 q.e, .int .i64 q.x, .int .u32 (g 0 : Nat), .int .u32 (g 1 : Nat), .int .u32 (g 2 : Nat), .int .u32 (g 3 : Nat), .int .u32 (g 4 : Nat), .int .u32 (g 5 : Nat), .int .u32 (g 6 : Nat), .int .u32 (g 7 : Nat), .int .u32 (pc : Nat), .bool on]] w fun x w' => x = .returned (.bool true) ∧ Np w F T B w' := by
  have hb := (Below.refl w.heap.size w).alloc (Nat.le_refl _) (.cells #[.int .i64 5, .int .i64 t, .int .i64 e, .int .i64 n, .int .i64 m, .int .i64 q.f, .int .i64 q.e, .int .i64 q.x, .int .u32 (g 0 : Nat), .int .u32 (g 1 : Nat), .int .u32 (g 2 : Nat), .int .u32 (g 3 : Nat), .int .u32 (g 4 : Nat), .int .u32 (g 5 : Nat), .int .u32 (g 6 : Nat), .int .u32 (g 7 : Nat), .int .u32 (pc : Nat), .bool on] 47)
  have HS := hide (h.below hb)
  have HB := hide hb
  clear h hb
  go_enter Try.func16, Try.ntmps16
  go_wp2_with fail
  refine (setRegs_q HS.out.et HS.out.iv HS.out.wd e g pc).mono ?_
  rintro x w1 ⟨⟨c, rfl⟩, hq⟩
  have HP := hide (HS.out.qu HB.out hq)
  clear hq HS HB
  go_wp2
  go_ret
  exact ⟨rfl, HP.out⟩
theorem dsE_zero {e : Int} (h : dsE rs e = 0) : ∃ (k : Nat) (r : Er), e = (k : Int) ∧ rs[k]? = some (some r) ∧ k ≠ 0 ∧ dsL rs e = wk rs 17 k ∧ dsS rs e = drops (dsP rs r) (wk rs 17 k) := by
  have h0 := h
  unfold dsE at h
  cases hl : look rs e with
  | none => rw [hl] at h; cases h
  | some r =>
    obtain ⟨k, rfl, hr⟩ := look_some hl
    rw [hl] at h
    simp only [] at h
    by_cases hk : (k : Int) = 0
    · rw [if_pos hk] at h; cases h
    · refine ⟨k, r, rfl, hr, by omega, ?_, ?_⟩
      · unfold dsL; rw [if_pos h0]; rfl
      · unfold dsS; rw [hl]; simp only []; rw [if_neg hk]; rfl
theorem dsE_not {e : Int} (h : dsE rs e ≠ 0) : dsL rs e = [] ∧ dsS rs e = rs := by
  refine ⟨by unfold dsL; rw [if_neg h], ?_⟩
  unfold dsE at h
  unfold dsS
  cases hl : look rs e with
  | none => rfl
  | some r =>
    rw [hl] at h
    simp only [] at h ⊢
    by_cases hk : e = 0
    · rw [if_pos hk]
    · rw [if_neg hk] at h; exact absurd rfl h
theorem dsP_keeps (r : Er) : ∀ (i : Nat) (r' : Er), (dsP rs r)[i]? = some (some r') → ∃ r0, rs[i]? = some (some r0) ∧ r'.pd = r0.pd ∧ r'.bi = r0.bi := by
  intro i r' h
  unfold dsP at h
  cases hl : look rs r.pa with
  | none => rw [hl] at h; exact ⟨r', h, rfl, rfl⟩
  | some rp =>
    obtain ⟨p, hp, hr⟩ := look_some hl
    rw [hl] at h
    simp only [] at h
    rw [hp] at h
    by_cases e : i = p
    · subst e
      rw [show ((i : Int)).toNat = i by omega, List.getElem?_set_self (List.getElem?_eq_some_iff.1 hr).1] at h
      cases h
      exact ⟨rp, hr, rfl, rfl⟩
    · rw [show ((p : Int)).toNat = p by omega, List.getElem?_set_ne (fun e' => e e'.symm)] at h
      exact ⟨r', h, rfl, rfl⟩
theorem dsP_same (r : Er) : Same rs (dsP rs r) := by
  unfold dsP
  cases hl : look rs r.pa with
  | none => exact ⟨rfl, fun _ => rfl⟩
  | some rp =>
    obtain ⟨p, hp, hr⟩ := look_some hl
    simp only []
    rw [hp, show ((p : Int)).toNat = p by omega]
    exact Same.set hr rfl rfl rfl
theorem drops_some {l : List Nat} {i : Nat} {r : Er} (h : (drops rs l)[i]? = some (some r)) : i ∉ l ∧ rs[i]? = some (some r) := by
  have hi : i ∉ l := fun hm => by
    have hlt := (List.getElem?_eq_some_iff.1 h).1
    rw [drops_len] at hlt
    rw [drops_gone l rs i hm hlt] at h; cases h
  exact ⟨hi, by rw [drops_other l rs i hi] at h; exact h⟩
theorem Wd.dsS (h : Wd rs) (e : Int) : Wd (dsS rs e) := by
  by_cases hz : dsE rs e = 0
  · obtain ⟨k, r, rfl, hr, _, _, hS⟩ := dsE_zero hz
    rw [hS]
    intro i ri hi
    obtain ⟨_, h1⟩ := drops_some hi
    obtain ⟨r0, h2, _, h3⟩ := dsP_keeps r i ri h1
    rw [h3]; exact h i r0 h2
  · rw [(dsE_not hz).2]; exact h
/-- the book while numbers are struck out -/
structure Bm (w : World) (B : Nat) (rs : List (Option Er)) (last : Int) (l : List Nat) : Prop where
  out : ∃ cs : List Value, w.heap[B]? = some (.cells cs.toArray 58 (0, 0)) ∧ cs.length = 65 ∧ (∀ i, i < 16 → cs[i]? = some (.bool (lvb rs i && !(l.contains i)))) ∧
    (∀ i, i < 16 → ∃ p : Qt, cs[16 + i * 3]? = some (.int .i64 p.f) ∧ cs[16 + i * 3 + 1]? = some (.int .i64 p.e) ∧ cs[16 + i * 3 + 2]? = some (.int .i64 p.x) ∧ ∀ r, rs[i]? = some (some r) → p = r.pd) ∧ cs[64]? = some (.int .i64 last)
theorem Bq.bm (h : Bq w B rs last) : Bm w B rs last [] := by
  obtain ⟨cs, h1, h2⟩ := h.out
  exact ⟨cs, h1, h2.len, fun i hi => by rw [h2.live i hi]; simp, h2.paid, h2.lst⟩
theorem Bm.keep {l : List Nat} (h : Bm w B rs last l) (hk : w'.heap[B]? = w.heap[B]?) : Bm w' B rs last l := by obtain ⟨cs, h1, h2⟩ := h.out; exact ⟨cs, hk.trans h1, h2⟩
theorem Bm.cell {l : List Nat} (h : Bm w B rs last l) {i : Nat} (hi : i < 16) : w.cell? ⟨B, i, none⟩ = some (.bool (lvb rs i && !(l.contains i))) ∧ w.frozen? ⟨B, i, none⟩ = false := by
  obtain ⟨cs, h1, _, h2, _⟩ := h.out
  refine ⟨?_, frozen_of_row _ _ _ _ _ h1⟩
  rw [cell_of_row _ _ _ _ _ _ h1]
  simpa using h2 i hi
theorem Bm.step {l : List Nat} (h : Bm w B rs last l) {c : Nat} (hc : c < 16) : Bm (w.setCell ⟨B, c, none⟩ (.bool false)) B rs last (l ++ [c]) := by
  obtain ⟨cs, h1, h2, h3, h4, h5⟩ := h.out
  refine ⟨cs.set c (.bool false), ?_, by simpa using h2, fun i hi => ?_, fun i hi => ?_, ?_⟩
  · rw [heap_setCell_same _ B c _ _ (.bool false) h1]; simp
  · by_cases e : i = c
    · subst e; rw [List.getElem?_set_self (by omega)]; simp
    · rw [List.getElem?_set_ne (fun e' => e e'.symm), h3 i hi]
      congr 2
      simp [e]
  · obtain ⟨p, p1, p2, p3, p4⟩ := h4 i hi
    exact ⟨p, by rw [List.getElem?_set_ne (by omega)]; exact p1, by rw [List.getElem?_set_ne (by omega)]; exact p2, by rw [List.getElem?_set_ne (by omega)]; exact p3, p4⟩
  · rw [List.getElem?_set_ne (by omega)]; exact h5
theorem Bm.done {l : List Nat} (h : Bm w B rs last l) (hl : rs.length = 16) (r : Er) : Bq w B (drops (dsP rs r) l) last := by
  obtain ⟨cs, h1, h2, h3, h4, h5⟩ := h.out
  have hS := dsP_same (rs := rs) r
  refine ⟨cs, h1, ⟨h2, fun i hi => ?_, fun i hi => ?_, h5⟩⟩
  · rw [h3 i hi]
    congr 2
    by_cases hm : i ∈ l
    · have e1 : lvb (drops (dsP rs r) l) i = false := lvb_no (drops_gone l _ i hm (by rw [hS.1, hl]; exact hi))
      rw [e1]; simp [hm]
    · have e1 : lvb (drops (dsP rs r) l) i = lvb rs i := by
        unfold lvb
        rw [← hS.2 i]
        unfold core
        rw [look_nat, look_nat, drops_other l _ i hm]
      rw [e1]; simp [hm]
  · obtain ⟨p, p1, p2, p3, p4⟩ := h4 i hi
    refine ⟨p, p1, p2, p3, fun r' hr' => ?_⟩
    obtain ⟨_, h6⟩ := drops_some hr'
    obtain ⟨r0, h7, h8, _⟩ := dsP_keeps r i r' h6
    rw [h8]; exact p4 r0 h7
theorem lives_cell (k : Nat) (hk : k < 16) (b : Bool) (c : w.cell? ⟨B, k, none⟩ = some (.bool b)) : Calls Try.prog 21 #[.pointer (some ⟨B, 0, none⟩), .int .i64 (k : Int)] w fun x w' => x = .returned (.bool b) ∧ w' = w := by
  have hk2 : (k : Int) < 16 := by omega
  go_enter Try.func21, Try.ntmps21
  go_wp2
  go_ret
  exact ⟨rfl, rfl⟩
set_option maxRecDepth 100000 in
set_option maxHeartbeats 6400000 in
theorem noted_destroy (h : Ns w F T B rs last) (t e n m : Int) (q : Qt) (g : Nat → Nat) (pc : Nat) (on : Bool) : Calls Try.prog 16 #[.pointer (some ⟨B, 0, none⟩), .pointer (some ⟨T, 0, none⟩), .agg #[.int .i64 3, .int .i64 t, .int .i64 e, .int .i64 n, .int .i64 m, .int .i64 q.f, .int .i64 q.e, .int .i64 q.x, .int .u32 (g 0 : Nat), .int .u32 (g 1 : Nat), .int .u32 (g 2 : Nat), .int .u32 (g 3 : Nat), .int .u32 (g 4 : Nat), .int .u32 (g 5 : Nat), .int .u32 (g 6 : Nat), .int .u32 (g 7 : Nat), .int .u32 (pc : Nat), .bool on]] w fun x w' => x = .returned (.bool true) ∧ Np w F T B w' := by
  have hb := (Below.refl w.heap.size w).alloc (Nat.le_refl _) (.cells #[.int .i64 3, .int .i64 t, .int .i64 e, .int .i64 n, .int .i64 m, .int .i64 q.f, .int .i64 q.e, .int .i64 q.x, .int .u32 (g 0 : Nat), .int .u32 (g 1 : Nat), .int .u32 (g 2 : Nat), .int .u32 (g 3 : Nat), .int .u32 (g 4 : Nat), .int .u32 (g 5 : Nat), .int .u32 (g 6 : Nat), .int .u32 (g 7 : Nat), .int .u32 (pc : Nat), .bool on] 47)
  have a1 := heap_alloc_new w (.cells #[.int .i64 3, .int .i64 t, .int .i64 e, .int .i64 n, .int .i64 m, .int .i64 q.f, .int .i64 q.e, .int .i64 q.x, .int .u32 (g 0 : Nat), .int .u32 (g 1 : Nat), .int .u32 (g 2 : Nat), .int .u32 (g 3 : Nat), .int .u32 (g 4 : Nat), .int .u32 (g 5 : Nat), .int .u32 (g 6 : Nat), .int .u32 (g 7 : Nat), .int .u32 (pc : Nat), .bool on] 47)
  have HS := hide (h.below hb)
  have HB := hide hb
  have HA := hide a1
  have HNF : Hid (¬ F w.heap.size) := hide (fun e => by have := h.et.lt _ e; omega)
  have HBl : Hid (B < w.heap.size) := hide h.bq.lt
  have HC := hide (destroy_any HS.out.et HS.out.iv e)
  clear h hb a1
  go_enter Try.func16, Try.ntmps16
  go_wp2_with fail
  refine HC.out.mono ?_
  rintro x w1 ⟨v, rfl, hE, hV, hM⟩
  have HQ := hide (HS.out.bq.keep (hM.block B HS.out.bq.lt HS.out.ne))
  have hlen := HS.out.iv.tr.len
  by_cases hz : dsE rs e = 0
  · have hIv := HS.out.iv.dsS e
    have hWd := HS.out.wd.dsS e
    have hT := HS.out.iv.tr
    obtain ⟨k, r, rfl, hr, hk0, hL, hS⟩ := dsE_zero hz
    rw [hS] at hE hIv hWd
    rw [hL] at hV
    have HND := hide (wk_nodup hT 17 k)
    have HLv := hide (fun c (hc : c ∈ wk rs 17 k) => wk_lv 17 ⟨r, hr⟩ hc)
    have HN0 : Hid (0 ∉ wk rs 17 k) := hide (fun hc => by
      rcases wk_up 17 hc with e | ⟨q, _, e⟩
      · exact hk0 e.symm
      · exact (kid_ser hT e).2.1 rfl)
    have HHd : Hid ((wk rs 17 k)[0]? = some k) := hide rfl
    have HL16 := hide (wk_len hT 17 ⟨r, hr⟩)
    generalize wk rs 17 k = l at *
    obtain ⟨L, hL2⟩ : ∃ L, l.length = L := ⟨_, rfl⟩
    rw [hL2] at hV HL16
    have hL0 : 0 < L := by have := (List.getElem?_eq_some_iff.1 HHd.out).1; omega
    have hLe := HL16.out
    obtain ⟨gv, cv', rfl, hgl⟩ : ∃ gv cv', v = .slice (some ⟨gv, 0, none⟩) L cv' ∧ w.heap.size < gv := by
      obtain ⟨_, ⟨_, h0⟩ | ⟨g9, cp, cur, h0, h8, _⟩⟩ := hV
      · omega
      · exact ⟨g9, cp, h0, by simp at h8; omega⟩
    have HRowV := hide hV
    have HEt := hide hE
    have HIv := hide hIv
    have HWd := hide hWd
    have HX0 : Hid (Ext (wi B F) w (wi B F) w1) := hide ⟨⟨hM.os.trans HB.out.os, hM.tape.trans HB.out.tape, hM.output.trans HB.out.output, Nat.le_trans HB.out.size hM.size, fun b hb' hf => by
      rw [hM.block b (Nat.lt_of_lt_of_le hb' HB.out.size) (fun e => hf (.inr e)), HB.out.block b hb']⟩, fun _ hb' => .inl hb'⟩
    have HNe := hide HS.out.ne
    have hA2 := (hM.block _ (Array.getElem?_eq_some_iff.1 HA.out).1 HNF.out).trans HA.out
    have HA2 := hide hA2
    have HMb := hide HQ.out.bm
    have HTk : Hid (∀ j c, l[j]? = some c → l.take (j + 1) = l.take j ++ [c] ∧ c ∉ l.take j ∧ Lv rs c ∧ 0 < c ∧ c < 16) := hide (fun j c hc => by
      have h9 := List.getElem?_eq_some_iff.1 hc
      have htk : l.take (j + 1) = l.take j ++ [c] := by rw [List.take_succ_eq_append_getElem h9.1, h9.2]
      have hmem := List.mem_of_getElem? hc
      refine ⟨htk, fun h7 => ?_, HLv.out c hmem, ?_, lv_lt hT (HLv.out c hmem)⟩
      · have h8 : (l.take (j + 1)).Nodup := HND.out.sublist (List.take_sublist _ _)
        rw [htk, List.nodup_append] at h8
        exact h8.2.2 c h7 c (by simp) rfl
      · rcases Nat.eq_zero_or_pos c with e | e
        · exact absurd (e ▸ hmem) HN0.out
        · exact e)
    rw [hz]
    clear hE hV hM hIv hWd hT hr hk0 hL hS HS HB HA HC HND HLv HN0 hz hA2 HQ
    generalize w.heap.size = N at *
    go_upto_region 16 with fail
    have HRow0 : Hid (∀ j c : Nat, l[j]? = some c → w1.cell? ⟨gv, j, none⟩ = some (.int .i64 (c : Int))) := hide (fun j c hc => by
      have := World.ownsRow.cells HRowV.out rfl j (.int .i64 (c : Int)) (by simp [numN, hc])
      rw [add0] at this
      exact this)
    have hgB : gv ≠ B := by have := HBl.out; omega
    have HgB := hide hgB
    have K0 : Hid (Bm w1 B rs last (l.take 0)) := HMb
    go_loopw [11] (fun x wr => ∃ j : Nat, j ≤ L ∧ x = .int .i64 (j : Int) ∧ Hid (Bm wr B rs last (l.take j)) ∧ Hid (At w1 B wr)) (fun x _ => L - (intOf x).toNat)
    case atStart => exact ⟨0, by omega, rfl, K0, At.refl _ _⟩
    case round =>
    clear K0 HMb
    obtain ⟨j, hj, rfl, KM, KA⟩ := hrel
    by_cases hlt : j < L
    · have hd : decide ((j : Int) < (L : Int)) = true := by simp; omega
      have hj3 : (j : Int) < (L : Int) := by omega
      obtain ⟨c, hc⟩ : ∃ c, l[j]? = some c := ⟨_, List.getElem?_eq_getElem (by omega)⟩
      obtain ⟨htk, hnm, hlv, hc0, hc16⟩ := HTk.out j c hc
      have hgl2 : gv < w1.heap.size := World.block_lt_of_cell? _ _ (HRow0.out j c hc)
      have cj : wr.cell? ⟨gv, j, none⟩ = some (.int .i64 (c : Int)) := by
        rw [World.cell?_of_block (KA.out.block gv hgl2 HgB.out)]; exact HRow0.out j c hc
      obtain ⟨cc, fc⟩ := KM.out.cell hc16
      have hb1 : (lvb rs c && !((l.take j).contains c)) = true := by
        obtain ⟨rc, hrc⟩ := hlv
        rw [lvb_yes hrc]; simpa using hnm
      rw [hb1] at cc
      have HLi := hide (lives_cell (w := wr) (B := B) c hc16 true cc)
      have hcz : ¬ (c : Int) ≤ 0 := by omega
      have hc3 : (c : Int) < 16 := by omega
      have HTk2 := hide htk
      clear htk hnm hlv hb1 hc
      go_wp2_with fail
      refine HLi.out.mono ?_
      rintro x w2 ⟨rfl, rfl⟩
      go_upto_region 20 with fail
      obtain ⟨w3, hw3⟩ : ∃ w3, w3 = w2.drew := ⟨_, rfl⟩
      have HSd : Hid (w3.cell? ⟨gv, j, none⟩ = some (.int .i64 (c : Int))) := by rw [hw3]; exact hide cj
      have KM3 : Hid (Bm w3 B rs last (l.take j)) := by rw [hw3]; exact hide (KM.out.keep rfl)
      have KA3 : Hid (At w1 B w3) := by rw [hw3]; exact ⟨KA.out.os, KA.out.tape, KA.out.output, KA.out.size, KA.out.block⟩
      clear KM KA cj cc fc HLi
      refine wp_region_held_drew (S := fun W => W.cell? ⟨gv, j, none⟩ = some (.int .i64 (c : Int))) (by kernel_rfl) (by rw [← hw3]; exact HSd.out) (fun _ => ?_)
      rw [← hw3]
      clear hw3
      refine hd_take 0 (o := ⟨some 106, _, _, _, _, _⟩) (.pointer (some ⟨B, 0, none⟩)) (by kernel_rfl) (by kernel_rfl) (by kernel_rfl) rfl (by rfl) (fun W hSw => by go_simp) (fun _ _ _ h => h) HSd.out ?_
      try simp only [Act.put, List.setIfInBounds_toArray, List.set_cons_zero, List.set_cons_succ]
      refine hd_take 1 (o := ⟨some 107, _, _, _, _, _⟩) (.slice (some ⟨gv, 0, none⟩) L cv') (by kernel_rfl) (by kernel_rfl) (by kernel_rfl) rfl (by rfl) (fun W hSw => by go_simp) (fun _ _ _ h => h) HSd.out ?_
      try simp only [Act.put, List.setIfInBounds_toArray, List.set_cons_zero, List.set_cons_succ]
      refine hd_take 2 (o := ⟨some 108, _, _, _, _, _⟩) (.int .i64 (j : Int)) (by kernel_rfl) (by kernel_rfl) (by kernel_rfl) rfl (by rfl) (fun W hSw => by go_simp) (fun _ _ _ h => h) HSd.out ?_
      try simp only [Act.put, List.setIfInBounds_toArray, List.set_cons_zero, List.set_cons_succ]
      refine hd_take 3 (o := ⟨some 109, _, _, _, _, _⟩) (.pointer (some ⟨gv, j, none⟩)) (by kernel_rfl) (by kernel_rfl) (by kernel_rfl) rfl (by rfl) (fun W hSw => by go_simp) (fun _ _ _ h => h) HSd.out ?_
      try simp only [Act.put, List.setIfInBounds_toArray, List.set_cons_zero, List.set_cons_succ]
      refine hd_take 4 (o := ⟨some 110, _, _, _, _, _⟩) (.int .i64 (c : Int)) (by kernel_rfl) (by kernel_rfl) (by kernel_rfl) rfl (by rfl) (fun W hSw => by go_simp) (fun _ _ _ h => h) HSd.out ?_
      try simp only [Act.put, List.setIfInBounds_toArray, List.set_cons_zero, List.set_cons_succ]
      refine hd_take 5 (o := ⟨some 111, _, _, _, _, _⟩) (.pointer (some ⟨B, 0, none⟩)) (by kernel_rfl) (by kernel_rfl) (by kernel_rfl) rfl (by rfl) (fun W hSw => by go_simp) (fun _ _ _ h => h) HSd.out ?_
      try simp only [Act.put, List.setIfInBounds_toArray, List.set_cons_zero, List.set_cons_succ]
      refine hd_take 6 (o := ⟨some 112, _, _, _, _, _⟩) (.pointer (some ⟨B, 0, none⟩)) (by kernel_rfl) (by kernel_rfl) (by kernel_rfl) rfl (by rfl) (fun W hSw => by go_simp) (fun _ _ _ h => h) HSd.out ?_
      try simp only [Act.put, List.setIfInBounds_toArray, List.set_cons_zero, List.set_cons_succ]
      refine hd_take 7 (o := ⟨some 113, _, _, _, _, _⟩) (.pointer (some ⟨B, c, none⟩)) (by kernel_rfl) (by kernel_rfl) (by kernel_rfl) rfl (by rfl) (fun W hSw => by go_simp) (fun _ _ _ h => h) HSd.out ?_
      try simp only [Act.put, List.setIfInBounds_toArray, List.set_cons_zero, List.set_cons_succ]
      obtain ⟨cc, fc⟩ := KM3.out.cell hc16
      refine hd_call 8 (o := ⟨none, _, _, _, _, _⟩) (by kernel_rfl) rfl (by rfl) (fun K hK => ?_)
      go_simp
      refine hK _ _ (by rw [World.cell?_of_block (heap_setCell_other _ _ _ _ HgB.out)]; exact HSd.out) ?_
      clear hK K
      refine wpAnyH_done (by kernel_rfl) ?_ _
      have K1 : Hid (Bm (w3.setCell ⟨B, c, none⟩ (.bool false)) B rs last (l.take (j + 1))) := by rw [HTk2.out]; exact hide (KM3.out.step hc16)
      have K2 := hide (KA3.out.set c (.bool false))
      clear cc fc KM3 KA3 HSd HTk2
      generalize w3.setCell ⟨B, c, none⟩ (.bool false) = w4 at *
      go_wp2
      go_roundw
      case rel =>
        first
          | exact ⟨j + 1, by omega, by go_num, K1, K2⟩
          | ((repeat apply Exists.intro); refine ⟨?_, rfl⟩; exact ⟨j + 1, by omega, by go_num, K1, K2⟩)
      case measure => simp [intOf]; omega
    · obtain rfl : j = L := by omega
      have hd : decide ((j : Int) < (j : Int)) = false := by simp
      have hjp : decide ((0 : Int) < (j : Int)) = true := by simp; omega
      have hjp2 : (0 : Int) < (j : Int) := by omega
      have KD := KM.out
      rw [← hL2, List.take_length] at KD
      have HBq := hide (KD.done hlen r)
      have hgl2 : gv < w1.heap.size := World.block_lt_of_cell? _ _ (HRow0.out 0 k HHd.out)
      have c0 : wr.cell? ⟨gv, 0, none⟩ = some (.int .i64 (k : Int)) := by
        rw [World.cell?_of_block (KA.out.block gv hgl2 HgB.out)]; exact HRow0.out 0 k HHd.out
      have cE : wr.cell? ⟨N, 2, none⟩ = some (.int .i64 (k : Int)) := by
        rw [World.cell?_of_block (KA.out.block N (Array.getElem?_eq_some_iff.1 HA2.out).1 (by have := HBl.out; omega)), cell_of_row _ _ _ _ _ _ HA2.out]; rfl
      have HAll : Hid (∀ nq, Np w F T B (wr.drewN nq)) := hide (fun nq => Np.book HEt.out HX0.out HNe.out HIv.out HWd.out ⟨KA.out.os, KA.out.tape, KA.out.output, KA.out.size, KA.out.block⟩ (HBq.out.keep rfl))
      clear KD KM HBq KA HEt HIv HWd HX0 HRow0 HTk HRowV HA2
      go_upto_region 21 with fail
      go_quiet (fail)
      have HP := hide (HAll.out nq)
      clear HAll c0 cE
      go_wp2
      go_ret
      exact ⟨by simp, HP.out⟩
  · obtain ⟨hL, hS⟩ := dsE_not hz
    rw [hL] at hV
    rw [hS] at hE
    obtain ⟨va, vc, rfl⟩ := own_shape hV
    have HP := hide (HS.out.qu HB.out ⟨rs, hE, hM, HS.out.iv, HS.out.wd, KQ.refl _⟩)
    have hzb : (dsE rs e == 0) = false := by simp [hz]
    clear hE hM hV HS HB HA HC HQ hL hS
    generalize dsE rs e = c at *
    go_wp2
    go_ret
    exact ⟨by simp, HP.out⟩
end
end Go.Proofs.Ytoddadohmnaolaa
